import PyProof.Rows.All
import Wide.All
import OpenK.AllK
import Wide.FinOn
import KE.KStateDown
import KE.GoesMore
import KE.KOpsOwn
import HandS.ForMost
import HandS.Exc
import HandS.Defaults
import HandS.MakeKw
import HandS.Wide
import HandS.Walk
import HandS.Codes
import HandS.IsInst
import HandS.FStr
import HandS.Zip
import HandS.Style
import HandS.OwnEq
import HandS.SlotsOwn
import HandS.MakeKwOnly
import HandS.Gcd
import HandS.Head0
import HandS.Head1
import HandS.Head2
import HandS.Head3
import HandS.HeadEnd
import HandS.HeadHook1
import HandS.HeadHook2
import HandS.ExcOwn
import HandS.ExcInit
import HandS.ExcField
import HandS.ClsMeth
import HandS.Lambda
import HandS.EndTab
import HandS.HeadHook3
import HandS.HeadHook4
import HandS.HeadWalk
import PyProof.InstNe
import HandS.More
import HandS.ExcIs
import PySem.Challenge.RW_looptimes_k04_spans_refused
set_option Elab.async false
set_option linter.all false
set_option maxRecDepth 100000
set_option maxHeartbeats 2000000
set_option exponentiation.threshold 20000
set_option Elab.async false
set_option linter.all false
set_option maxRecDepth 100000
set_option maxHeartbeats 2000000
namespace Lt
open PySem PySem.Spec PyProof.Rows L2
/-! ### enumerate(a tuple) -/
section
open AutoSeq1 (wpAny_loadPart')
theorem meets_enumerate_newT (l : Addr) (items : Array Value) (n : Nat) (dct : Option Addr) (sl : Array (Option Value)) :
    Meets (Builtin.«enumerate.__new__» ⟨[.type "enumerate", .ref l], []⟩) (fun _ R s => s.heap.get? l = some { cls := .type "tuple", dict := dct, data := .seq items n, slots := sl } ∧
      R (.ok (.ret (.ref (s.heap.push { cls := .type "tuple_iterator", data := .fields #[.ref l, .int 0 0] }).objs.size)))
        { s with heap := (s.heap.push { cls := .type "tuple_iterator", data := .fields #[.ref l, .int 0 0] }).push { cls := .type "enumerate", data := .fields #[.none, .bool false, .ref s.heap.objs.size, rawInt 0, .none, .none] } }) :=
  .of_wp fun prog w A R s h => by
    obtain ⟨hp, g, d, tk, os⟩ := s; obtain ⟨hl, h⟩ := h
    have hsub := sub_enumerate
    have hL : Heap.IsTuple (Shared.heap ⟨hp, g, d, tk, os⟩) l items := ⟨_, hl, rfl, n, rfl⟩
    wp_walk using wpAny_loadPart' hl
    refine wpAny_stack_any fun st => wpAny_pure ?_
    split
    · rename_i c _ _ _ _ _
      cases (c == Value.type "enumerate")
      · wp_walk using wpAny_loadPart' hl, wpAny_pyIter_tuple hL
        exact ⟨_, rfl, h⟩
      · wp_walk using wpAny_loadPart' hl, wpAny_pyIter_tuple hL
        exact ⟨_, rfl, h⟩
    · wp_walk using wpAny_loadPart' hl, wpAny_pyIter_tuple hL
      exact ⟨_, rfl, h⟩
variable {prog : Program} {w : World} {A : Around} {E : Value → Shared → Prop} {s : Shared}
theorem call_enumerate_tup {l : Addr} {items : Array Value} {Q : Value → Shared → Prop} (hL : s.heap.IsTuple l items)
    (h : ∀ h', IsEnum h' (s.heap.objs.size + 1) s.heap.objs.size 0 .none → h'.IsTupleIter s.heap.objs.size l 0 → h'.objs.size = s.heap.objs.size + 2 →
      (∀ b o, s.heap.get? b = some o → h'.get? b = some o) → Q (.ref (s.heap.objs.size + 1)) { s with heap := h' }) :
    wpAny (model prog w) A (call (.type "enumerate") [.ref l]) Q E s := by
  obtain ⟨⟨c, dct, dt, sl⟩, hl, hc, n, hd⟩ := hL
  replace hc : c = .type "tuple" := hc
  replace hd : dt = .seq items n := hd
  subst hc hd
  refine callType_new F.called_enumerate (by decide) (F.typeCall_enumerate_1 _) (F.newCall_enumerate_1 _) (fun obj => F.args_object_init_2 obj _) F.entry_enumerate_new
    (meets_enumerate_newT l items n dct sl) ⟨hl, ?_⟩
  have hz : (s.heap.push { cls := .type "tuple_iterator", data := .fields #[.ref l, .int 0 0] }).objs.size = s.heap.objs.size + 1 := Heap.size_push ..
  show _ ∧ _
  rw [hz]
  have he : IsEnum ((s.heap.push { cls := .type "tuple_iterator", data := .fields #[.ref l, .int 0 0] }).push
      { cls := .type "enumerate", data := .fields #[.none, .bool false, .ref s.heap.objs.size, rawInt 0, .none, .none] }) (s.heap.objs.size + 1) s.heap.objs.size 0 .none := by
    have := Heap.get?_push_size (s.heap.push { cls := .type "tuple_iterator", data := .fields #[.ref l, .int 0 0] })
      (o := { cls := .type "enumerate", data := .fields #[.none, .bool false, .ref s.heap.objs.size, rawInt 0, .none, .none] }) rfl
    rw [hz] at this; exact this
  refine ⟨⟨_, he, rfl⟩, h _ he ⟨_, Heap.get?_push_of_some _ (Heap.get?_push_size _ rfl), rfl, rfl⟩ (by rw [Heap.size_push, hz]) fun b o x => Heap.get?_push_of_some _ (Heap.get?_push_of_some _ x)⟩
end
def IteT (K : PySem.W.Frag) (a : Addr) : It :=
  ⟨fun i H => ∃ (xs : List V) (x : V), SqT K H a xs ∧ xs[i]? = some x, fun i H v H' => ∃ T x, v = .ref T ∧ H T = none ∧ H' = upd H T (.tup [.int (i : Nat), x]) ∧ ∀ xs, SqT K H a xs → xs[i]? = some x, fun i H => ∃ xs : List V, SqT K H a xs ∧ xs.length ≤ i⟩
theorem tup_ne_iter {h : Heap} {t it a : Addr} {i : Nat} {items : Array Value} (ht : h.IsTuple t items) (hi : h.IsTupleIter it a i) : t ≠ it := by
  rintro rfl
  obtain ⟨o, ho, hc, _⟩ := ht
  obtain ⟨o2, ho2, hc2, _⟩ := hi
  rw [ho] at ho2
  cases ho2
  rw [hc] at hc2
  injection hc2 with q
  exact absurd q (by decide)
theorem turn_enumT {P : Program} {w : World} {K : PySem.W.Frag} {elts : List Expr} {kk : Nat} {tpos : Pos} (a e it : Addr) :
    Turn P w K (.Tuple elts kk tpos) (IteT K a) [e, it] e (fun i h => (∃ old, IsEnum h e it ((i : Nat) : Int) old) ∧ h.IsTupleIter it a i ∧ e ≠ it) where
  mem := by simp
  obj := fun i h st b hb => by
    obtain ⟨⟨old, he⟩, ⟨o, ho, hc, hd⟩, _⟩ := st
    have e' : b = e ∨ b = it := by simpa using hb
    rcases e' with z | z
    · rw [z]; exact ⟨_, he, fun v q => nomatch q⟩
    · rw [z]; exact ⟨o, ho, fun v q => by rw [hd] at q; cases q⟩
  keep := fun i h h' st k => let ⟨⟨old, he⟩, hi, hne⟩ := st; ⟨⟨old, k e (by simp) _ he⟩, hi.at fun o q => k it (by simp) o q, hne⟩
  item := by
    intro X hP hw hK hc i pins s σ H E I hf st hg
    subst hP hw hK
    obtain ⟨⟨old, he⟩, hit, hne⟩ := st
    obtain ⟨xs, x, hq, hx⟩ := hg
    obtain ⟨its, rv, p, hz⟩ := I.tuple hq
    obtain ⟨u, hu, ru⟩ := rv.get hx
    have ht : s.heap.IsTuple a its.toArray := p
    have hel : e < s.heap.objs.size := Heap.lt_size he
    have hil : it < s.heap.objs.size := by obtain ⟨_, q, _⟩ := hit; exact Heap.lt_size q
    have hane : a ≠ it := tup_ne_iter ht hit
    have hea : e ≠ a := by
      rintro rfl
      obtain ⟨o, ho, hc2, _⟩ := ht
      rw [show s.heap.get? e = some _ from he] at ho
      cases ho
      injection hc2 with q
      exact absurd q (by decide)
    have hlt : i < its.toArray.size := by
      have q := (List.getElem?_eq_some_iff.mp hu).1
      simpa using q
    refine wpAny_pyNext_enum_itemD (Draws.tuple (A := X.A.in1) (I.ok.hd hc) it a hane its.toArray) he ⟨hit, ht⟩ hlt hne (by simp [hea, hne]) fun x' h' tk hx' ho hst hT hsz hk => ?_
    have ex : x' = u := by
      have hx2 : its.toArray[i]? = some x' := hx'
      have hu2 : its.toArray[i]? = some u := by simpa using hu
      rw [hu2] at hx2
      cases hx2
      rfl
    subst ex
    refine ⟨_, rfl, wpAny_letOwnedTupleGo_enum (s := { s with heap := h', toks := tk + 1 }) ho fun h'' he' sb => ?_⟩
    have hT2 : h''.get? s.heap.objs.size = some { cls := .type "tuple", data := .seq #[.int i tk, x'] } := (sb.2 _ (Nat.ne_of_gt hel)).trans hT
    have new : ObjOk X.prog X.w (upd H s.heap.objs.size (.tup [.int (i : Nat), x])) h'' s.heap.objs.size (.tup [.int (i : Nat), x]) :=
      ⟨by show 2 ≤ sizeLine; decide, [.int i tk, x'], .cons ⟨_, rfl⟩ (.cons ru .nil), ⟨_, hT2, rfl, _, rfl⟩⟩
    have I1 : Inv X pins σ (upd H s.heap.objs.size (.tup [.int (i : Nat), x])) { s with heap := h'', toks := tk + 1 } :=
      I.turnedNew (ch := [e, it]) (fun b ob hb q => (sb.2 b (fun z => hb (by simp [z]))).trans (hk b ob (fun z => hb (by simp [z])) (fun z => hb (by simp [z])) q)) hf (Nat.le_refl _) new
    refine ⟨.ref s.heap.objs.size, _, I1, rfl, ⟨_, x, rfl, I.hok.fresh (Nat.le_refl _), rfl, fun ys hy => by rw [I.tuple_inj hy hq]; exact hx⟩, ⟨⟨x', ?_⟩, hst.1.at fun o q => (sb.2 it (Ne.symm hne)).trans q, hne⟩, fun b hb => ?_⟩
    · have e1 : ((i + 1 : Nat) : Int) = (i : Int) + 1 := by omega
      rw [e1]; exact he'
    · have hb' : b < s.heap.objs.size := by
        have e' : b = e ∨ b = it := by simpa using hb
        rcases e' with z | z
        · rw [z]; exact hel
        · rw [z]; exact hil
      rw [upd_ne (Nat.ne_of_lt hb')]
      exact (hf b hb).1
  done := by
    intro X hP hw hK hc i pins s σ H E I hf st hg
    subst hP hw hK
    obtain ⟨⟨old, he⟩, hit, hne⟩ := st
    obtain ⟨xs, hq, hx⟩ := hg
    obtain ⟨its, rv, p, hz⟩ := I.tuple hq
    have ht : s.heap.IsTuple a its.toArray := p
    obtain ⟨f0, f1, f2, f3, f4, f5⟩ := hf it (by simp)
    have hl := rv.length
    have hT : s.TypeIs (.ref e) "enumerate" := ⟨_, he, rfl⟩
    have hane : a ≠ it := tup_ne_iter ht hit
    unfold pyNext
    refine wpAny_bind (wpAny_attempt (wpAny_callSpecial?_slot (name := Str.ofString "__next__") hT F.slot_enumerate_next
      (wpAny_call_entry F.slot_enumerate_next hT F.entry_enumerate_next ?_ (F.args_enumerate_next_1 _))))
    show wpAny _ _ (field (.ref e) 2 >>= _) _ _ _
    refine wpAny_bind (wpAny_field he rfl (x := .ref it) rfl ?_)
    refine wpAny_bind (wpAny_nextOf_tuple_end (I.ok.hd hc) hit ht (by simp; omega) fun h' x he' hx' => ?_)
    obtain ⟨o, ho, hc⟩ := hx'
    refine wpAny_bind (wpAny_isInstance (T := "StopIteration") (b := true) ⟨o, ho, hc⟩ isSubtype_stop ?_)
    exact wpAny_pure ⟨rfl, I.turned (t' := s.toks) (fun b o hb q => he' b o hb q) f0 f1 f3 f4 f5⟩
  self := fun A i s Q E st h => let ⟨⟨_, he⟩, _⟩ := st; wpAny_pyIter_enum he h
def iEnumT (K : PySem.W.Frag) (ta : TA) : TI := fun σ H R => ta σ H fun vs H1 => ∃ a xs, vs = [.ref a] ∧ SqT K H1 a xs ∧ R (IteT K a) H1
theorem pi_enumT {X : Cx} {e : Expr} {ta : TA} {p pos tpos : Pos} {elts : List Expr} {kk : Nat} (hg : Gl X "enumerate") (hm : X.mg "enumerate" = none) (ha : PA X [e] ta) (hs : starEach [e] X.env = [(false, eval e X.env)] := by rfl) :
    PI X (.Tuple elts kk tpos) (.Call (.Name "enumerate" p) [e] [] pos) (iEnumT X.K ta) := by
  refine ⟨fun pins s σ H R I h => ?_⟩
  refine Call_ (ld_blt I hg hm boot_enumerate (PyProof.Rows.callWith_type1 (thn (ha.run pos pins s σ H _ I h) fun us s1 ⟨vs, H1, I1, r1, q1⟩ => ?_) hs rfl))
  obtain ⟨a, xs, ex, hq, q⟩ := q1
  subst ex
  cases r1 with
  | cons r rr =>
    cases rr
    cases r
    obtain ⟨its, rv, p', hz⟩ := I1.tuple hq
    refine call_enumerate_tup (show s1.heap.IsTuple a its.toArray from p') fun h' he hit hsz hk => wpAny_pyIter_enum he ?_
    have I2 : Inv X pins σ H1 { s1 with heap := h' } := I1.kept (t' := s1.toks) hk
    refine ⟨s1.heap.objs.size + 1, [s1.heap.objs.size + 1, s1.heap.objs.size], _, _, H1, rfl, I2, turn_enumT a (s1.heap.objs.size + 1) s1.heap.objs.size, ⟨⟨.none, he⟩, hit, Nat.succ_ne_self _⟩, fun b hb => ?_, q⟩
    have e' : b = s1.heap.objs.size + 1 ∨ b = s1.heap.objs.size := by simpa using hb
    have hle : s1.heap.objs.size ≤ b := by
      rcases e' with z | z
      · rw [z]; exact Nat.le_add_right _ _
      · rw [z]; exact Nat.le_refl _
    exact I1.fpOk hle (I1.hok.fresh hle)
theorem walk_enumT {K : PySem.W.Frag} {a : Addr} {xs : List V} : Walk (IteT K a) xs.length (fun H => SqT K H a xs) (YPair (fun i => some (.int (i : Nat))) (fun i => xs[i]?)) := by
  refine ⟨fun i _ hi q => ⟨xs, xs[i], q, by simp [hi]⟩, fun _ q => ⟨xs, q, Nat.le_refl _⟩, fun i H v H' _ q y => ?_⟩
  obtain ⟨T, x, h1, h2, h3, h4⟩ := y
  exact ⟨T, .int (i : Nat), x, h1, h2, h3, rfl, h4 xs q⟩
/-! ### a Hook with further facts -/
def obsM (fa : List He.Fa) (fs : List (PySem.W.Frag → Bool)) (fn : List He.DefD) (K : PySem.W.Frag) : He.AlD := ((fa.all fun f => f.ok K) && ((fs.all fun f => f K) && fn.all fun d => d.ok K), fn.map fun d => He.fnW K d.at_)
def SaysM (fa : List He.Fa) (fs : List (PySem.W.Frag → Bool)) (fn : List He.DefD) (K : PySem.W.Frag) : Prop := obsM fa fs fn K = He.valD fn
def obsMG (n : Nat) (fa : List He.Fa) (fs : List (PySem.W.Frag → Bool)) (fn : List He.DefD) (g : Addr → Option Obj) : He.AlD := obsM fa fs fn (He.frG g (He.asD g n))
def hookM (n : Nat) (fa : List He.Fa) (fs : List (PySem.W.Frag → Bool)) (fn : List He.DefD) : PySem.W.Hook where
  α := He.AlD
  obs := fun s => obsMG n fa fs fn s.heap.get?
  val := fun _ => He.valD fn
  says := fun _ h => ∃ K : PySem.W.Frag, K.In h ∧ SaysM fa fs fn K
  of := fun _ _ e => ⟨_, He.frG_in, e⟩
  keeps := fun _ _ _ ⟨K, hK, c⟩ k => ⟨K, PySem.W.Frag.In.keeps hK k, c⟩
theorem obsMG_eq {n : Nat} {fa : List He.Fa} {fs : List (PySem.W.Frag → Bool)} {fn : List He.DefD} {g : Addr → Option Obj} {s : Shared} (h : ∀ a, g a = s.heap.get? a) : obsMG n fa fs fn g = (hookM n fa fs fn).obs s := by
  have e : g = s.heap.get? := funext h
  rw [e] <;> rfl
section
variable {fa : List He.Fa} {fs : List (PySem.W.Frag → Bool)} {fn : List He.DefD} {K : PySem.W.Frag}
theorem SaysM.fact (c : SaysM fa fs fn K) (i : Nat) {f : He.Fa} (h : fa[i]? = some f) : f.ok K = true := by
  have c1 := (He.ba (show ((fa.all fun f => f.ok K) && ((fs.all fun f => f K) && fn.all fun d => d.ok K)) = true from congrArg (fun z : He.AlD => z.1) c)).1
  exact List.all_eq_true.mp c1 f (List.mem_of_getElem? h)
theorem SaysM.chk (c : SaysM fa fs fn K) (i : Nat) {f : PySem.W.Frag → Bool} (h : fs[i]? = some f) : f K = true := by
  have c1 := (He.ba (He.ba (show ((fa.all fun f => f.ok K) && ((fs.all fun f => f K) && fn.all fun d => d.ok K)) = true from congrArg (fun z : He.AlD => z.1) c)).2).1
  exact List.all_eq_true.mp c1 f (List.mem_of_getElem? h)
theorem SaysM.def_ (c : SaysM fa fs fn K) (i : Nat) {d : He.DefD} (h : fn[i]? = some d) : ∃ fd, FunD K d.name d.qual d.params d.body d.scope (d.dvs K) (d.kws K) (He.fAd K d.at_) fd := by
  have c2 := (He.ba (He.ba (show ((fa.all fun f => f.ok K) && ((fs.all fun f => f K) && fn.all fun d => d.ok K)) = true from congrArg (fun z : He.AlD => z.1) c)).2).2
  have e : fn.map (fun d => He.fnW K d.at_) = fn.map He.DefD.val := congrArg (fun z : He.AlD => z.2) c
  have e2 : (fn.map fun d => He.fnW K d.at_)[i]? = (fn.map He.DefD.val)[i]? := by rw [e]
  rw [List.getElem?_map, List.getElem?_map, h] at e2
  exact He.DefD.funD (Option.some.inj e2) (List.all_eq_true.mp c2 d (List.mem_of_getElem? h))
end
/-! ### the ledger: what is known of a heap, by addresses -/
abbrev Led := List (Addr × (HO → Prop))
def Is (o : HO) : HO → Prop := fun x => x = o
/-- behind H0: what stood there stands, but for the addresses of S, which hold something -/
def Kp (S : List Addr) (H0 H : Hp) : Prop := ∀ b o, H0 b = some o → H b = some o ∨ (b ∈ S ∧ ∃ u, H b = some u)
structure Stt (H0 : Hp) (S : List Addr) (l : Led) (H : Hp) : Prop where
  keep : Kp S H0 H
  nd : (l.map (·.1)).Nodup
  at_ : ∀ e ∈ l, ∃ o, H e.1 = some o ∧ e.2 o
inductive Put : Led → Addr → (HO → Prop) → Led → Prop where
  | head {a : Addr} {f g : HO → Prop} {l : Led} : Put ((a, f) :: l) a g ((a, g) :: l)
  | tail {a : Addr} {g : HO → Prop} {x : Addr × (HO → Prop)} {l l' : Led} (h : Put l a g l') : Put (x :: l) a g (x :: l')
theorem Kp.refl {S : List Addr} (H : Hp) : Kp S H H := fun _ _ e => .inl e
theorem Kp.none {S : List Addr} {H0 H : Hp} (h : Kp S H0 H) {p : Addr} (hp : H p = none) : H0 p = none := by
  cases e : H0 p with
  | none => rfl
  | some o =>
    rcases h p o e with q | ⟨_, u, q⟩
    · rw [hp] at q; cases q
    · rw [hp] at q; cases q
theorem Kp.trans {S S' : List Addr} {H0 H1 H2 : Hp} (a : Kp S H0 H1) (b : Kp S' H1 H2) (hs : ∀ x ∈ S', x ∈ S ∨ H0 x = Option.none) : Kp S H0 H2 := fun x o e => by
  rcases a x o e with q | ⟨m, u, q⟩
  · rcases b x o q with r | ⟨m, r⟩
    · exact .inl r
    · rcases hs x m with z | z
      · exact .inr ⟨z, r⟩
      · rw [e] at z; cases z
  · rcases b x u q with r | ⟨_, r⟩
    · exact .inr ⟨m, u, r⟩
    · exact .inr ⟨m, r⟩
theorem Kp.same {H0 H : Hp} (h : Kp [] H0 H) : Same H0 H := fun b o e => (h b o e).elim id fun z => nomatch z.1
theorem Kp.of_same {S : List Addr} {H0 H : Hp} (h : Same H0 H) : Kp S H0 H := fun b o e => .inl (h b o e)
theorem Kp.mono {S S' : List Addr} {H0 H : Hp} (h : Kp S H0 H) (hs : ∀ x ∈ S, x ∈ S') : Kp S' H0 H := fun b o e => (h b o e).imp id fun z => ⟨hs b z.1, z.2⟩
theorem Kp.get {S : List Addr} {H0 H : Hp} (h : Kp S H0 H) {a : Addr} {o : HO} (ha : a ∉ S) (e : H0 a = some o) : H a = some o := (h a o e).elim id fun z => absurd z.1 ha
theorem Kp.seqL {S : List Addr} {K : PySem.W.Frag} {H H' : Hp} {l : Addr} {xs : List V} (a : Kp S H H') (hl : l ∉ S) (h : SqL K H l xs) : SqL K H' l xs := by
  rcases h with (h | ⟨o, h⟩) | h
  · exact .inl (.inl (a.get hl h))
  · exact .inl (.inr ⟨o, a.get hl h⟩)
  · exact .inr h
section
variable {H0 H H1 : Hp} {S : List Addr} {l l' : Led} {a p : Addr} {o : HO} {f : HO → Prop}
theorem Put.keys (h : Put l a f l') : l'.map (·.1) = l.map (·.1) := by
  induction h with
  | head => rfl
  | tail h ih => simp only [List.map_cons, ih]
theorem Put.mem (h : Put l a f l') : a ∈ l.map (·.1) := by
  induction h with
  | head => exact List.mem_cons_self
  | tail h ih => exact List.mem_cons_of_mem _ ih
theorem Put.new (h : Put l a f l') (hn : (l.map (·.1)).Nodup) : ∀ e ∈ l', (e = (a, f)) ∨ (e ∈ l ∧ e.1 ≠ a) := by
  induction h with
  | head =>
    intro e he
    rcases List.mem_cons.mp he with z | z
    · exact .inl z
    · refine .inr ⟨List.mem_cons_of_mem _ z, fun q => ?_⟩
      rw [List.map_cons, List.nodup_cons] at hn
      exact hn.1 (List.mem_map.mpr ⟨e, z, q⟩)
  | @tail a g x l l' h ih =>
    intro e he
    rw [List.map_cons, List.nodup_cons] at hn
    rcases List.mem_cons.mp he with z | z
    · subst z
      refine .inr ⟨List.mem_cons_self, fun q => ?_⟩
      exact hn.1 (q ▸ h.mem)
    · rcases ih hn.2 e z with q | ⟨q1, q2⟩
      · exact .inl q
      · exact .inr ⟨List.mem_cons_of_mem _ q1, q2⟩
theorem Stt.nil : Stt H S [] H := ⟨.refl H, List.nodup_nil, fun _ h => nomatch h⟩
theorem Stt.none (h : Stt H0 S l H) (hp : H p = none) : H0 p = none := h.keep.none hp
theorem Stt.get (h : Stt H0 S l H) (m : (a, Is o) ∈ l) : H a = some o := by
  obtain ⟨u, e1, e2⟩ := h.at_ _ m
  rw [e1, show u = o from e2]
theorem Stt.pick (h : Stt H0 S l H) (m : (a, f) ∈ l) : ∃ o, H a = some o ∧ f o := h.at_ _ m
theorem Stt.ne (h : Stt H0 S l H) {b : Addr} {g : HO → Prop} (m : (a, f) ∈ l) (m2 : (b, g) ∈ l) (hd : ∀ o, f o → ¬ g o) : a ≠ b := by
  rintro rfl
  obtain ⟨o, e1, e2⟩ := h.at_ _ m
  obtain ⟨o2, e3, e4⟩ := h.at_ _ m2
  rw [e1] at e3
  cases e3
  exact hd _ e2 e4
theorem Stt.fresh (h : Stt H0 S l H) (hp : H p = Option.none) : p ∉ l.map (·.1) := fun m => by
  obtain ⟨e, me, q⟩ := List.mem_map.mp m
  obtain ⟨o, h1, _⟩ := h.at_ e me
  rw [q, hp] at h1
  cases h1
theorem Stt.new (h : Stt H0 S l H) (hp : H p = Option.none) (o : HO) : Stt H0 S ((p, Is o) :: l) (upd H p o) where
  keep := fun b u e => by
    rcases h.keep b u e with q | ⟨m, v, q⟩
    · exact .inl (by rw [upd_ne (ne_of_none q hp)]; exact q)
    · exact .inr ⟨m, v, by rw [upd_ne (ne_of_none q hp)]; exact q⟩
  nd := by
    rw [List.map_cons]
    exact List.nodup_cons.mpr ⟨h.fresh hp, h.nd⟩
  at_ := fun e m => by
    rcases List.mem_cons.mp m with z | z
    · subst z
      exact ⟨o, upd_same, rfl⟩
    · obtain ⟨u, h1, h2⟩ := h.at_ e z
      exact ⟨u, by rw [upd_ne (ne_of_none h1 hp)]; exact h1, h2⟩
theorem Stt.set (h : Stt H0 S l H) (u : Put l a (Is o) l') (ha : a ∈ S ∨ H0 a = Option.none) : Stt H0 S l' (upd H a o) where
  keep := fun b v e => by
    by_cases hb : b = a
    · subst hb
      rcases ha with z | z
      · exact .inr ⟨z, o, upd_same⟩
      · rw [e] at z; cases z
    · rw [upd_ne hb]
      exact h.keep b v e
  nd := by rw [u.keys]; exact h.nd
  at_ := fun e m => by
    rcases u.new h.nd e m with z | ⟨z1, z2⟩
    · subst z
      exact ⟨o, upd_same, rfl⟩
    · obtain ⟨v, h1, h2⟩ := h.at_ e z1
      exact ⟨v, by rw [upd_ne z2]; exact h1, h2⟩
/-- one entry told otherwise -/
theorem Stt.re (h : Stt H0 S l H) (u : Put l a f l') (hf : ∃ o, H a = some o ∧ f o) : Stt H0 S l' H := ⟨h.keep, by rw [u.keys]; exact h.nd, fun e m => by
  rcases u.new h.nd e m with z | ⟨z1, _⟩
  · subst z
    exact hf
  · exact h.at_ e z1⟩
theorem Stt.sub (h : Stt H0 S l H) (s : List.Sublist l' l) : Stt H0 S l' H := ⟨h.keep, List.Nodup.sublist (s.map _) h.nd, fun e m => h.at_ e (s.subset m)⟩
/-- a further entry, of another kind than all others -/
theorem Stt.add (h : Stt H0 S l H) (hf : ∃ o, H a = some o ∧ f o) (hn : a ∉ l.map (·.1)) : Stt H0 S ((a, f) :: l) H := ⟨h.keep, by
  rw [List.map_cons]
  exact List.nodup_cons.mpr ⟨hn, h.nd⟩, fun e m => by
  rcases List.mem_cons.mp m with z | z
  · subst z
    exact hf
  · exact h.at_ e z⟩
/-- behind a call that changed the addresses of S' alone and left them as they were told -/
theorem Stt.after {S' : List Addr} (h : Stt H0 S l H) (k : Kp S' H H1) (hs : ∀ x ∈ S', x ∈ S ∨ H0 x = Option.none) (hf : ∀ e ∈ l, e.1 ∈ S' → ∃ o, H1 e.1 = some o ∧ e.2 o) : Stt H0 S l H1 := ⟨h.keep.trans k hs, h.nd, fun e m => by
  obtain ⟨o, h1, h2⟩ := h.at_ e m
  by_cases z : e.1 ∈ S'
  · exact hf e m z
  · exact ⟨o, k.get z h1, h2⟩⟩
theorem Stt.after0 (h : Stt H0 S l H) (k : Kp [] H H1) : Stt H0 S l H1 := h.after k (fun _ z => nomatch z) fun _ _ z => nomatch z
/-- .. of one address -/
theorem Stt.after1 (h : Stt H0 S l H) (m : (a, f) ∈ l) (k : Kp [a] H H1) (hs : a ∈ S ∨ H0 a = Option.none) (hf : ∃ o, H1 a = some o ∧ f o) : Stt H0 S l H1 :=
  h.after k (fun x z => by rw [List.mem_singleton.mp z]; exact hs) fun e me z => by
    have q : e.1 = a := List.mem_singleton.mp z
    have : e = (a, f) := by
      have n := h.nd
      have i1 : (a, f).1 = e.1 := q.symm
      exact (inj_of_nodup n me m q)
    subst this
    exact hf
where
  inj_of_nodup : ∀ {l : Led} (_ : (l.map (·.1)).Nodup) {x y : Addr × (HO → Prop)}, x ∈ l → y ∈ l → x.1 = y.1 → x = y
    | [], _, _, _, h, _, _ => nomatch h
    | z :: r, n, x, y, hx, hy, e => by
      rw [List.map_cons, List.nodup_cons] at n
      rcases List.mem_cons.mp hx with q | q
      · rcases List.mem_cons.mp hy with q2 | q2
        · rw [q, q2]
        · exact absurd (List.mem_map.mpr ⟨y, q2, by rw [← e, q]⟩) n.1
      · rcases List.mem_cons.mp hy with q2 | q2
        · exact absurd (List.mem_map.mpr ⟨x, q, by rw [e, q2]⟩) n.1
        · exact inj_of_nodup n.2 q q2 e
/-- .. which is told otherwise behind it -/
theorem Stt.afterX {g : HO → Prop} (h : Stt H0 S ((a, f) :: l) H) (k : Kp [a] H H1) (hs : a ∈ S ∨ H0 a = Option.none) (hg : ∃ o, H1 a = some o ∧ g o) : Stt H0 S ((a, g) :: l) H1 := by
  have h2 : Stt H0 S ((a, fun _ => True) :: l) H := h.re .head (by obtain ⟨o, e, _⟩ := h.pick (a := a) (f := f) List.mem_cons_self; exact ⟨o, e, trivial⟩)
  obtain ⟨o, e, q⟩ := hg
  exact (h2.after1 List.mem_cons_self k hs ⟨o, e, trivial⟩).re .head ⟨o, e, q⟩
theorem Stt.base {S' : List Addr} (h : Stt H0 S l H) (s : List.Sublist l' l) : Stt H S' l' H := ⟨.refl H, List.Nodup.sublist (s.map _) h.nd, fun e m => h.at_ e (s.subset m)⟩
theorem Stt.sqL {K : PySem.W.Frag} {xs : List V} (h : Stt H0 S l H) (m : (a, Is (.lst xs)) ∈ l) : SqL K H a xs := .inl (.inl (h.get m))
theorem Stt.sqT {K : PySem.W.Frag} {xs : List V} (h : Stt H0 S l H) (m : (a, Is (.tup xs)) ∈ l) : SqT K H a xs := .inl (.inl (h.get m))
theorem Stt.sqF {K : PySem.W.Frag} {xs : List V} {fo : Obj} (h : Stt H0 S l H) (m : (a, Is (.frz fo (.lst xs))) ∈ l) : SqL K H a xs := .inl (.inr ⟨fo, h.get m⟩)
end
/-- a draw's state: a list [cells, nth, value, flag]; cells a list of ints -/
def DrS (c : Addr) : HO → Prop := fun o => ∃ (nth val : Int) (fl : Bool), o = .lst [.ref c, .int nth, .int val, .bl fl]
/-! ### readings, one step each -/
namespace Rd
variable {K : PySem.W.Frag} {D : Ends} {σ : L2.St} {H H0 : Hp} {Q : VK} {S : List Addr} {l l' : Led} {t t1 t2 u : TS} {te ta tb tc : TE} {x y v : V} {r : R2} {i j : Nat}
theorem seq (h : t1 { D with nx := t2 D } σ H) : tSeq t1 t2 D σ H := h
theorem cut (Mid : L2.St → Hp → Prop) (h1 : t1 { D with nx := Mid } σ H) (h2 : ∀ σ' H', Mid σ' H' → t2 D σ' H') : C8.tCut t1 t2 D σ H := ⟨Mid, h1, h2⟩
theorem next (h : D.nx σ H) : tNext D σ H := h
theorem brk (h : D.bk σ H) : tBreak D σ H := h
theorem cont (h : D.ct σ H) : tCont D σ H := h
theorem asg (h : te σ H fun x H1 => D.nx (σ.set i (some x)) H1) : tAsg te (gName i) D σ H := h
theorem drop (h : te σ H fun _ H1 => D.nx σ H1) : tDrop te D σ H := h
theorem ret (h : te σ H D.rt) : tRet te D σ H := h
theorem retN (h : D.rt .non H) : tRetN D σ H := h
def Par (D : Ends) (σ : L2.St) (i j : Nat) (vs : List V) (H1 : Hp) : Prop := ∃ v w, vs = [v, w] ∧ D.nx ((σ.set i (some v)).set j (some w)) H1
theorem par {ta : TA} (h : ta σ H fun vs H1 => Par D σ i j vs H1) : tPar i j ta D σ H := h
theorem parL {v w : V} (h : D.nx ((σ.set i (some v)).set j (some w)) H) : Par D σ i j [v, w] H := ⟨v, w, rfl, h⟩
theorem var (e : σ[i]? = some (some v)) (h : Q v H) : tVar i σ H Q := ⟨v, e, h⟩
theorem con (h : Q v H) : tC v σ H Q := h
theorem op (h : ta σ H fun x H1 => tb σ H1 fun y H2 => r x y H2 Q) : tOp r ta tb σ H Q := h
theorem un {r : V → Hp → VK → Prop} (h : ta σ H fun x H1 => r x H1 Q) : tUn r ta σ H Q := h
theorem i0 {g : Int → Int → V} {a b : Int} (h : Q (g a b) H) : rI0 g (.int a) (.int b) H Q := ⟨a, b, rfl, rfl, h⟩
theorem ic {C : Int → Int → Prop} {g : Int → Int → V} {a b : Int} (c : C a b) (h : Q (g a b) H) : rI C g (.int a) (.int b) H Q := ⟨a, b, rfl, rfl, c, h⟩
theorem u1 {g : Int → V} {a : Int} (h : Q (g a) H) : rU g (.int a) H Q := ⟨a, rfl, h⟩
theorem eqS (s : scal x y = true) (h : Q (.bl (decide (x = y))) H) : rEq x y H Q := ⟨s, h⟩
theorem neS (s : scal x y = true) (h : Q (.bl (!decide (x = y))) H) : rNe x y H Q := ⟨s, h⟩
theorem nil {Q : List V → Hp → Prop} (h : Q [] H) : tNil σ H Q := h
theorem cons {ts : TA} {Q : List V → Hp → Prop} (h : te σ H fun x H1 => ts σ H1 fun xs H2 => Q (x :: xs) H2) : tCons te ts σ H Q := h
def Tup (vs : List V) (H1 : Hp) (Q : VK) : Prop := vs.length ≤ sizeLine ∧ ∀ p, H1 p = none → Q (.ref p) (upd H1 p (.tup vs))
def Lst (vs : List V) (H1 : Hp) (Q : VK) : Prop := vs.length ≤ sizeLine ∧ ∀ p, H1 p = none → Q (.ref p) (upd H1 p (.lst vs))
theorem tup {ta : TA} (h : ta σ H fun vs H1 => Tup vs H1 Q) : tTup ta σ H Q := h
theorem lst {ta : TA} (h : ta σ H fun vs H1 => Lst vs H1 Q) : tLst ta σ H Q := h
theorem tupN {vs : List V} (st : Stt H0 S l H) (hz : vs.length ≤ 100000) (k : ∀ p H1, H0 p = none → Stt H0 S ((p, Is (.tup vs)) :: l) H1 → Q (.ref p) H1) : Tup vs H Q :=
  ⟨Nat.le_trans hz (by decide), fun p hp => k p _ (st.none hp) (st.new hp _)⟩
theorem lstN {vs : List V} (st : Stt H0 S l H) (hz : vs.length ≤ 100000) (k : ∀ p H1, H0 p = none → Stt H0 S ((p, Is (.lst vs)) :: l) H1 → Q (.ref p) H1) : Lst vs H Q :=
  ⟨Nat.le_trans hz (by decide), fun p hp => k p _ (st.none hp) (st.new hp _)⟩
theorem ixL {p : Addr} {xs : List V} {z : Int} (st : Stt H0 S l H) (m : (p, Is (.lst xs)) ∈ l) (e : atI xs z = some v) (h : Q v H) : rIxL K (.ref p) (.int z) H Q := ⟨p, xs, z, v, rfl, rfl, st.sqL m, e, h⟩
theorem ixT {p : Addr} {xs : List V} {z : Int} (st : Stt H0 S l H) (m : (p, Is (.tup xs)) ∈ l) (e : atI xs z = some v) (h : Q v H) : rIxT K (.ref p) (.int z) H Q := ⟨p, xs, z, v, rfl, rfl, st.sqT m, e, h⟩
theorem ixLs {p : Addr} {xs : List V} {z : Int} (s : SqL K H p xs) (e : atI xs z = some v) (h : Q v H) : rIxL K (.ref p) (.int z) H Q := ⟨p, xs, z, v, rfl, rfl, s, e, h⟩
def rLenQ (K : PySem.W.Frag) : List V → Hp → VK → Prop := fun xs H Q => ∃ p ys, xs = [V.ref p] ∧ (SqL K H p ys ∨ SqT K H p ys) ∧ Q (V.int (ys.length : Int)) H
theorem cb {r : List V → Hp → VK → Prop} {ta : TA} (h : ta σ H fun vs H1 => r vs H1 Q) : tCB r ta σ H Q := h
theorem lenL {p : Addr} {xs : List V} (st : Stt H0 S l H) (m : (p, Is (.lst xs)) ∈ l) (h : Q (.int (xs.length : Int)) H) : rLenQ K [.ref p] H Q := ⟨p, xs, rfl, .inl (st.sqL m), h⟩
theorem lenT {p : Addr} {xs : List V} (st : Stt H0 S l H) (m : (p, Is (.tup xs)) ∈ l) (h : Q (.int (xs.length : Int)) H) : rLenQ K [.ref p] H Q := ⟨p, xs, rfl, .inr (st.sqT m), h⟩
def rIntQ : List V → Hp → VK → Prop := fun xs H Q => (∃ i, xs = [.int i] ∧ Q (.int i) H) ∨ ∃ k, xs = [.bl k] ∧ Q (.int (if k then 1 else 0)) H
theorem intI {z : Int} (h : Q (.int z) H) : rIntQ [.int z] H Q := .inl ⟨z, rfl, h⟩
def rAbsQ : List V → Hp → VK → Prop := fun xs H Q => ∃ i, xs = [.int i] ∧ Q (.int (if i < 0 then -i else i)) H
theorem absI {z : Int} (h : Q (.int (if z < 0 then -z else z)) H) : rAbsQ [.int z] H Q := ⟨z, rfl, h⟩
def Aug (i : Nat) (ti : TIp) (x y : V) (H1 : Hp) (Qz : V → Hp → Prop) : Prop := ti x y H1 Qz
theorem aug {ti : TIp} {x : V} (e : σ[i]? = some (some x)) (h : te σ H fun y H1 => ti x y H1 fun z H2 => D.nx (σ.set i (some z)) H2) : tAug i te ti D σ H := ⟨x, e, h⟩
theorem ipI {f : Int → Int → Int} {a b : Int} (h : Q (.int (f a b)) H) : L2.ipI f (.int a) (.int b) H Q := ⟨a, b, rfl, rfl, h⟩
/-- tests -/
def Bl (x : V) (H1 : Hp) (Q : Bool → Hp → Prop) : Prop := ∃ k, x = .bl k ∧ Q k H1
theorem test {Q : Bool → Hp → Prop} (h : te σ H fun x H1 => Bl x H1 Q) : tTest te σ H Q := h
theorem tbl {Q : Bool → Hp → Prop} (h : te σ H fun x H1 => Bl x H1 Q) : tB te σ H Q := h
theorem bl {Q : Bool → Hp → Prop} {k : Bool} (h : Q k H) : Bl (.bl k) H Q := ⟨k, rfl, h⟩
def Br (c : Bool) (A B : Prop) : Prop := if c = true then A else B
theorem ifS {c : TT} (h : c σ H fun b H1 => Br b (t D σ H1) (u D σ H1)) : tIfS c t u D σ H := h
theorem ifE {c : TT} (h : c σ H fun b H1 => Br b (ta σ H1 Q) (tb σ H1 Q)) : tIf c ta tb σ H Q := h
theorem andT {c d : TT} {Q : Bool → Hp → Prop} (h : c σ H fun b H1 => Br b (d σ H1 Q) (Q false H1)) : tAnd c d σ H Q := h
theorem orT {c d : TT} {Q : Bool → Hp → Prop} (h : c σ H fun b H1 => Br b (Q true H1) (d σ H1 Q)) : tOr c d σ H Q := h
theorem notT {c : TT} {Q : Bool → Hp → Prop} (h : c σ H fun b H1 => Q (!b) H1) : tNot c σ H Q := h
def BlV (x : V) (A B : Prop) : Prop := ∃ c, x = .bl c ∧ if c = true then A else B
theorem andV (h : ta σ H fun x H1 => BlV x (tb σ H1 Q) (Q (.bl false) H1)) : tAndV ta tb σ H Q := h
theorem orV (h : ta σ H fun x H1 => BlV x (Q (.bl true) H1) (tb σ H1 Q)) : tOrV ta tb σ H Q := h
theorem blV {c : Bool} {A B : Prop} (h : Br c A B) : BlV (.bl c) A B := ⟨c, rfl, h⟩
def NotV (x : V) (H1 : Hp) (Q : VK) : Prop := ∃ c, x = .bl c ∧ Q (.bl (!c)) H1
theorem notV (h : ta σ H fun x H1 => NotV x H1 Q) : tNotV ta σ H Q := h
theorem notVL {c : Bool} (h : Q (.bl (!c)) H) : NotV (.bl c) H Q := ⟨c, rfl, h⟩
theorem brT {A B : Prop} {c : Bool} (e : c = true) (h : A) : Br c A B := by rw [e]; exact h
theorem brF {A B : Prop} {c : Bool} (e : c = false) (h : B) : Br c A B := by rw [e]; exact h
theorem br {A B : Prop} {c : Bool} (h1 : c = true → A) (h2 : c = false → B) : Br c A B := by
  cases c with
  | true => exact h1 rfl
  | false => exact h2 rfl
theorem brD {A B p : Prop} [Decidable p] (h1 : p → A) (h2 : ¬ p → B) : Br (decide p) A B := br (fun e => h1 (of_decide_eq_true e)) fun e => h2 (of_decide_eq_false e)
theorem brTT {A B : Prop} (h : A) : Br true A B := h
theorem brFF {A B : Prop} (h : B) : Br false A B := h
theorem brN {A B : Prop} {c : Bool} (h : Br c B A) : Br (!c) A B := by
  cases c with
  | true => exact h
  | false => exact h
theorem brI {A B : Prop} {p : Prop} [Decidable p] (h1 : p) (h : A) : Br (decide p) A B := brT (decide_eq_true h1) h
theorem brJ {A B : Prop} {p : Prop} [Decidable p] (h1 : ¬ p) (h : B) : Br (decide p) A B := brF (decide_eq_false h1) h
/-- stores -/
theorem sub {ts : TSet} (h : te σ H fun v H1 => ta σ H1 fun o H2 => tb σ H2 fun i H3 => ts o i v H3 fun H4 => D.nx σ H4) : tAsg te (gSub ta tb ts) D σ H := h
theorem setL {p : Addr} {xs : List V} {z : Int} {Qs : Hp → Prop} (st : Stt H0 S l H) (m : (p, Is (.lst xs)) ∈ l) (e : ixN xs.length z = some j) (u : Put l p (Is (.lst (xs.set j v))) l') (ha : p ∈ S ∨ H0 p = none)
    (k : ∀ H1, Stt H0 S l' H1 → Qs H1) : rSetL (.ref p) (.int z) v H Qs := ⟨p, xs, z, j, rfl, rfl, st.get m, e, k _ (st.set u ha)⟩
/-- xs.append(e) -/
def BM (K : PySem.W.Frag) (T : String) (r : V → List V → Hp → VK → Prop) (t : TA) (σ : L2.St) (x : V) (H1 : Hp) (Q : VK) : Prop := tyV K T x H1 ∧ t σ H1 fun xs H2 => r x xs H2 Q
theorem bm {T : String} {r : V → List V → Hp → VK → Prop} {t : TA} (h : ta σ H fun x H1 => BM K T r t σ x H1 Q) : tBM K T r ta t σ H Q := h
theorem bmL {p : Addr} {xs : List V} {r : V → List V → Hp → VK → Prop} {t : TA} (st : Stt H0 S l H) (m : (p, Is (.lst xs)) ∈ l) (h : t σ H fun ys H2 => r (.ref p) ys H2 Q) : BM K "list" r t σ (.ref p) H Q := ⟨.inl ⟨rfl, _, st.sqL m⟩, h⟩
theorem app {p : Addr} {xs : List V} (st : Stt H0 S l H) (m : (p, Is (.lst xs)) ∈ l) (hz : xs.length < 100000) (u : Put l p (Is (.lst (xs ++ [y]))) l') (ha : p ∈ S ∨ H0 p = none) (k : ∀ H1, Stt H0 S l' H1 → Q .non H1) : rAppend (.ref p) [y] H Q :=
  ⟨p, xs, y, rfl, rfl, st.get m, Nat.lt_of_lt_of_le hz (by decide), k _ (st.set u ha)⟩
/-- a, b = t -/
def Gt (K : PySem.W.Frag) (n : Nat) (t : TGs) (v : V) (σ : L2.St) (H : Hp) (Q : L2.St → Hp → Prop) : Prop := gTup K n t v σ H Q
theorem asgT {n : Nat} {gs : TGs} (h : te σ H fun v H1 => gTup K n gs v σ H1 D.nx) : tAsg te (gTup K n gs) D σ H := h
theorem gtup {n : Nat} {gs : TGs} {p : Addr} {xs : List V} {Q : L2.St → Hp → Prop} (st : Stt H0 S l H) (m : (p, Is (.tup xs)) ∈ l) (e : xs.length = n) (h : gs xs σ H Q) : gTup K n gs (.ref p) σ H Q := ⟨p, xs, rfl, st.sqT m, e, h⟩
theorem gcons {g : TG} {gs : TGs} {xs : List V} {Q : L2.St → Hp → Prop} (h : g v σ H fun σ' H' => gs xs σ' H' Q) : gCons g gs (v :: xs) σ H Q := ⟨v, xs, rfl, h⟩
theorem gname {Q : L2.St → Hp → Prop} (h : Q (σ.set i (some v)) H) : gName i v σ H Q := h
theorem gnil {Q : L2.St → Hp → Prop} (h : Q σ H) : gNil [] σ H Q := ⟨rfl, h⟩
/-- slices of lists -/
theorem sl {r : V → Option Int → Option Int → Hp → VK → Prop} {tl th : TO} (h : te σ H fun x H1 => tl σ H1 fun lo H2 => th σ H2 fun hi H3 => r x lo hi H3 Q) : tSl r te tl th σ H Q := h
theorem noPart {Q : Option Int → Hp → Prop} (h : Q none H) : tNoPart σ H Q := h
def Prt (x : V) (H1 : Hp) (Q : Option Int → Hp → Prop) : Prop := ∃ i, x = .int i ∧ Q (some i) H1
theorem part {Q : Option Int → Hp → Prop} (h : te σ H fun x H1 => Prt x H1 Q) : tPart te σ H Q := h
theorem prt {z : Int} {Q : Option Int → Hp → Prop} (h : Q (some z) H) : Prt (.int z) H Q := ⟨z, rfl, h⟩
/-- a call: the promise is asked -/
theorem call {sp : Sp} {dvs : List V} {E : XK} {ta : TA} (h : ta σ H fun vs H1 => sp (vs ++ dvs) H1 Q E) : tCall sp dvs E ta σ H Q := h
/-- the draws' state: what is read is some int, some flag -/
theorem ixD2 {p c : Addr} (st : Stt H0 S l H) (m : (p, DrS c) ∈ l) (h : ∀ z, Q (.int z) H) : rIxL K (.ref p) (.int 2) H Q := by
  obtain ⟨o, h1, a, b, d, rfl⟩ := st.pick m
  exact ⟨p, _, 2, _, rfl, rfl, SqL.of h1, rfl, h b⟩
theorem ixD3 {p c : Addr} (st : Stt H0 S l H) (m : (p, DrS c) ∈ l) (h : ∀ z, Q (.bl z) H) : rIxL K (.ref p) (.int 3) H Q := by
  obtain ⟨o, h1, a, b, d, rfl⟩ := st.pick m
  exact ⟨p, _, 3, _, rfl, rfl, SqL.of h1, rfl, h d⟩
theorem setD2 {p c : Addr} {z : Int} {Qs : Hp → Prop} (st : Stt H0 S l H) (m : (p, DrS c) ∈ l) (u : Put l p (DrS c) l) (ha : p ∈ S ∨ H0 p = none) (k : ∀ H1, Stt H0 S l H1 → Qs H1) : rSetL (.ref p) (.int 2) (.int z) H Qs := by
  obtain ⟨o, h1, a, b, d, rfl⟩ := st.pick m
  refine ⟨p, _, 2, 2, rfl, rfl, h1, rfl, k _ ?_⟩
  exact { keep := fun x v e => by
            by_cases hx : x = p
            · subst hx
              rcases ha with q | q
              · exact .inr ⟨q, _, upd_same⟩
              · rw [e] at q; cases q
            · rw [upd_ne hx]; exact st.keep x v e
          nd := st.nd
          at_ := fun e me => by
            rcases u.new st.nd e me with q | ⟨q1, q2⟩
            · subst q
              exact ⟨_, upd_same, a, z, d, rfl⟩
            · obtain ⟨v, e1, e2⟩ := st.at_ e q1
              exact ⟨v, by rw [upd_ne q2]; exact e1, e2⟩ }
/-- loops -/
def For (J : It) (g : TG) (tb : TS) (D : Ends) (σ : L2.St) (H : Hp) : Prop := ∃ W : Nat → Nat → L2.St → Hp → Prop, (∃ m, W 0 m σ H) ∧ ∀ i m σ H, W i m σ H →
  (J.stop i H ∧ D.nx σ H) ∨ (J.go i H ∧ ∃ N : L2.St → Hp → Prop, (∀ σ' H', N σ' H' → ∃ m', m' < m ∧ W (i + 1) m' σ' H') ∧ ∀ x H', J.yld i H x H' → g x σ H' fun σ2 H2 => tb { D with nx := N, ct := N, bk := D.nx } σ2 H2)
theorem forS {wi : TI} {g : TG} {tb : TS} (h : wi σ H fun J H1 => For J g tb D σ H1) : tFor wi g tb D σ H := h
theorem loop {J : It} {n : Nat} {G : Hp → Prop} {Y : Nat → Hp → V → Hp → Prop} (w : Walk J n G Y) {g : TG} {tb : TS} (Pv : Nat → L2.St → Hp → Prop) (h0 : Pv 0 σ H) (hG : ∀ i σ H, i ≤ n → Pv i σ H → G H)
    (hs : ∀ i x σ H H', i < n → Pv i σ H → Y i H x H' → g x σ H' fun σ2 H2 => tb { D with nx := Pv (i + 1), ct := Pv (i + 1), bk := D.nx } σ2 H2) (hd : ∀ σ H, Pv n σ H → D.nx σ H) : For J g tb D σ H := for_it w Pv h0 hG hs hd
def WEnT (K : PySem.W.Frag) (vs : List V) (H1 : Hp) (R : It → Hp → Prop) : Prop := ∃ a xs, vs = [.ref a] ∧ SqT K H1 a xs ∧ R (IteT K a) H1
theorem wEnT {ta : TA} {R : It → Hp → Prop} (h : ta σ H fun vs H1 => WEnT K vs H1 R) : iEnumT K ta σ H R := h
theorem wEnTL {p : Addr} {xs : List V} {R : It → Hp → Prop} (st : Stt H0 S l H) (m : (p, Is (.tup xs)) ∈ l) (h : R (IteT K p) H) : WEnT K [.ref p] H R := ⟨p, xs, rfl, st.sqT m, h⟩
def WL (K : PySem.W.Frag) (x : V) (H1 : Hp) (R : It → Hp → Prop) : Prop := ∃ a, x = .ref a ∧ (∃ xs, SqL K H1 a xs) ∧ R (Itl K a) H1
theorem wL {R : It → Hp → Prop} (h : te σ H fun x H1 => WL K x H1 R) : iList K te σ H R := h
theorem wLL {p : Addr} {xs : List V} {R : It → Hp → Prop} (st : Stt H0 S l H) (m : (p, Is (.lst xs)) ∈ l) (h : R (Itl K p) H) : WL K (.ref p) H R := ⟨p, rfl, ⟨xs, st.sqL m⟩, h⟩
def WT (K : PySem.W.Frag) (x : V) (H1 : Hp) (R : It → Hp → Prop) : Prop := ∃ a, x = .ref a ∧ (∃ xs, SqT K H1 a xs) ∧ R (Itt K a) H1
theorem wT {R : It → Hp → Prop} (h : te σ H fun x H1 => WT K x H1 R) : iTup K te σ H R := h
theorem wTL {p : Addr} {xs : List V} {R : It → Hp → Prop} (st : Stt H0 S l H) (m : (p, Is (.tup xs)) ∈ l) (h : R (Itt K p) H) : WT K (.ref p) H R := ⟨p, rfl, ⟨xs, st.sqT m⟩, h⟩
def WR1 (vs : List V) (H1 : Hp) (R : It → Hp → Prop) : Prop := ∃ j : Int, vs = [.int j] ∧ -(2 ^ 62) ≤ j ∧ j < 2 ^ 62 ∧ R (Itr 0 j.toNat) H1
theorem wR1 {ta : TA} {R : It → Hp → Prop} (h : ta σ H fun vs H1 => WR1 vs H1 R) : iRng1 ta σ H R := h
theorem wR1L {z : Int} {R : It → Hp → Prop} (h1 : -(2 ^ 62) ≤ z) (h2 : z < 2 ^ 62) (h : R (Itr 0 z.toNat) H) : WR1 [.int z] H R := ⟨z, rfl, h1, h2, h⟩
def WR2 (vs : List V) (H1 : Hp) (R : It → Hp → Prop) : Prop := ∃ i j : Int, vs = [.int i, .int j] ∧ (-(2 ^ 62) ≤ i ∧ i < 2 ^ 62 ∧ -(2 ^ 62) ≤ j ∧ j < 2 ^ 62) ∧ R (Itr i (j - i).toNat) H1
theorem wR2 {ta : TA} {R : It → Hp → Prop} (h : ta σ H fun vs H1 => WR2 vs H1 R) : iRng2 ta σ H R := h
theorem wR2L {a z : Int} {R : It → Hp → Prop} (h1 : -(2 ^ 62) ≤ a ∧ a < 2 ^ 62 ∧ -(2 ^ 62) ≤ z ∧ z < 2 ^ 62) (h : R (Itr a (z - a).toNat) H) : WR2 [.int a, .int z] H R := ⟨a, z, rfl, h1, h⟩
/-- while, by a measure -/
theorem whileS {c : TT} {tb : TS} (W : Nat → L2.St → Hp → Prop) (m : Nat) (w0 : W m σ H)
    (hs : ∀ m σ H, W m σ H → c σ H fun b H1 => Br b (∃ N : L2.St → Hp → Prop, (∀ σ' H', N σ' H' → ∃ m', m' < m ∧ W m' σ' H') ∧ tb { D with nx := N, ct := N, bk := D.nx } σ H1) (D.nx σ H1)) : tWhile c tb D σ H := ⟨W, ⟨m, w0⟩, hs⟩
end Rd
theorem call_lenQ {X : Cx} : CallR X (.builtin "len") (Rd.rLenQ X.K) := call_len_seq
theorem call_intQ {X : Cx} : CallR X (.type "int") Rd.rIntQ := call_int1
theorem call_absQ {X : Cx} : CallR X (.builtin "abs") Rd.rAbsQ := call_abs
/-! ### the draws' state -/
theorem Stt.drawn {H0 H : Hp} {S : List Addr} {l : Led} {st c : Addr} {ns : List Int} (h : Stt H0 S l H) (m1 : (st, DrS c) ∈ l) (m2 : (c, Is (.lst (ns.map V.int))) ∈ l) : Stt H [st] [(st, DrS c), (c, Is (.lst (ns.map V.int)))] H where
  keep := .refl H
  nd := by
    have n : st ≠ c := h.ne m1 m2 fun o => by
      rintro ⟨nth, val, fl, rfl⟩ q
      have q2 : HO.lst [V.ref c, .int nth, .int val, .bl fl] = HO.lst (ns.map V.int) := q
      injection q2 with q2
      cases ns with
      | nil => cases q2
      | cons a r =>
        injection q2 with q1 q2
        cases q1
    simp [n]
  at_ := fun e m => by
    rcases List.mem_cons.mp m with z | z
    · subst z; exact h.at_ _ m1
    · rw [List.mem_singleton.mp z]; exact h.at_ _ m2
abbrev dled (st c : Addr) (ns : List Int) : Led := [(st, DrS c), (c, Is (.lst (ns.map V.int)))]
end Lt

set_option Elab.async false
set_option linter.all false
set_option maxRecDepth 100000
set_option maxHeartbeats 2000000
namespace Lt
open PySem PySem.Spec PyProof.Rows L2
/-! ### isinstance, instances' fields, numbers of any size -/
section
variable {K : PySem.W.Frag}
theorem kit_int_int : PySem.W.kitOne K (.type "int") (.type "int") = some true := kit_ty (by decide +kernel)
theorem kit_int_bool : PySem.W.kitOne K (.type "int") (.type "bool") = some false := kit_ty (by decide +kernel)
theorem kit_int_str : PySem.W.kitOne K (.type "int") (.type "str") = some false := kit_ty (by decide +kernel)
theorem kit_int_list : PySem.W.kitOne K (.type "int") (.type "list") = some false := kit_ty (by decide +kernel)
theorem kit_int_tuple : PySem.W.kitOne K (.type "int") (.type "tuple") = some false := kit_ty (by decide +kernel)
theorem kit_int_dict : PySem.W.kitOne K (.type "int") (.type "dict") = some false := kit_ty (by decide +kernel)
theorem kit_bool_int : PySem.W.kitOne K (.type "bool") (.type "int") = some true := kit_ty (by decide +kernel)
theorem kit_bool_bool : PySem.W.kitOne K (.type "bool") (.type "bool") = some true := kit_ty (by decide +kernel)
theorem kit_bool_str : PySem.W.kitOne K (.type "bool") (.type "str") = some false := kit_ty (by decide +kernel)
theorem kit_bool_list : PySem.W.kitOne K (.type "bool") (.type "list") = some false := kit_ty (by decide +kernel)
theorem kit_bool_tuple : PySem.W.kitOne K (.type "bool") (.type "tuple") = some false := kit_ty (by decide +kernel)
theorem kit_bool_dict : PySem.W.kitOne K (.type "bool") (.type "dict") = some false := kit_ty (by decide +kernel)
theorem kit_str_int : PySem.W.kitOne K (.type "str") (.type "int") = some false := kit_ty (by decide +kernel)
theorem kit_str_bool : PySem.W.kitOne K (.type "str") (.type "bool") = some false := kit_ty (by decide +kernel)
theorem kit_str_str : PySem.W.kitOne K (.type "str") (.type "str") = some true := kit_ty (by decide +kernel)
theorem kit_str_list : PySem.W.kitOne K (.type "str") (.type "list") = some false := kit_ty (by decide +kernel)
theorem kit_str_tuple : PySem.W.kitOne K (.type "str") (.type "tuple") = some false := kit_ty (by decide +kernel)
theorem kit_str_dict : PySem.W.kitOne K (.type "str") (.type "dict") = some false := kit_ty (by decide +kernel)
theorem kit_list_int : PySem.W.kitOne K (.type "list") (.type "int") = some false := kit_ty (by decide +kernel)
theorem kit_list_bool : PySem.W.kitOne K (.type "list") (.type "bool") = some false := kit_ty (by decide +kernel)
theorem kit_list_str : PySem.W.kitOne K (.type "list") (.type "str") = some false := kit_ty (by decide +kernel)
theorem kit_list_list : PySem.W.kitOne K (.type "list") (.type "list") = some true := kit_ty (by decide +kernel)
theorem kit_list_tuple : PySem.W.kitOne K (.type "list") (.type "tuple") = some false := kit_ty (by decide +kernel)
theorem kit_list_dict : PySem.W.kitOne K (.type "list") (.type "dict") = some false := kit_ty (by decide +kernel)
theorem kit_tuple_int : PySem.W.kitOne K (.type "tuple") (.type "int") = some false := kit_ty (by decide +kernel)
theorem kit_tuple_bool : PySem.W.kitOne K (.type "tuple") (.type "bool") = some false := kit_ty (by decide +kernel)
theorem kit_tuple_str : PySem.W.kitOne K (.type "tuple") (.type "str") = some false := kit_ty (by decide +kernel)
theorem kit_tuple_list : PySem.W.kitOne K (.type "tuple") (.type "list") = some false := kit_ty (by decide +kernel)
theorem kit_tuple_tuple : PySem.W.kitOne K (.type "tuple") (.type "tuple") = some true := kit_ty (by decide +kernel)
theorem kit_tuple_dict : PySem.W.kitOne K (.type "tuple") (.type "dict") = some false := kit_ty (by decide +kernel)
theorem kit_dict_int : PySem.W.kitOne K (.type "dict") (.type "int") = some false := kit_ty (by decide +kernel)
theorem kit_dict_bool : PySem.W.kitOne K (.type "dict") (.type "bool") = some false := kit_ty (by decide +kernel)
theorem kit_dict_str : PySem.W.kitOne K (.type "dict") (.type "str") = some false := kit_ty (by decide +kernel)
theorem kit_dict_list : PySem.W.kitOne K (.type "dict") (.type "list") = some false := kit_ty (by decide +kernel)
theorem kit_dict_tuple : PySem.W.kitOne K (.type "dict") (.type "tuple") = some false := kit_ty (by decide +kernel)
theorem kit_dict_dict : PySem.W.kitOne K (.type "dict") (.type "dict") = some true := kit_ty (by decide +kernel)
theorem kit_NoneType_int : PySem.W.kitOne K (.type "NoneType") (.type "int") = some false := kit_ty (by decide +kernel)
theorem kit_NoneType_bool : PySem.W.kitOne K (.type "NoneType") (.type "bool") = some false := kit_ty (by decide +kernel)
theorem kit_NoneType_str : PySem.W.kitOne K (.type "NoneType") (.type "str") = some false := kit_ty (by decide +kernel)
theorem kit_NoneType_list : PySem.W.kitOne K (.type "NoneType") (.type "list") = some false := kit_ty (by decide +kernel)
theorem kit_NoneType_tuple : PySem.W.kitOne K (.type "NoneType") (.type "tuple") = some false := kit_ty (by decide +kernel)
theorem kit_NoneType_dict : PySem.W.kitOne K (.type "NoneType") (.type "dict") = some false := kit_ty (by decide +kernel)
end
/-- what isinstance asks of an own class -/
structure InsT (K : PySem.W.Frag) (C : Addr) : Prop where
  cl : Cls K C
  ca : PySem.W.findIn K (.ref C) "__class__" = some (some (.builtin "object.__class__"))
  cn : PySem.W.specialIn K (.builtin "object.__class__") "__get__" = some (some (.builtin "getset_descriptor.__get__"))
  ct : PySem.W.takesIn K (.builtin "object.__class__") = some true
  cm : PySem.W.mroIn K C (.type "object") = some true
def insTB (K : PySem.W.Frag) (C : Addr) : Bool := decide (PySem.W.findIn K (.ref C) "__class__" = some (some (.builtin "object.__class__"))) && (decide (PySem.W.specialIn K (.builtin "object.__class__") "__get__" = some (some (.builtin "getset_descriptor.__get__"))) &&
  (decide (PySem.W.takesIn K (.builtin "object.__class__") = some true) && decide (PySem.W.mroIn K C (.type "object") = some true)))
theorem insT_of {K : PySem.W.Frag} {C : Addr} (c : Cls K C) (h : insTB K C = true) : InsT K C := by
  obtain ⟨h1, h⟩ := He.ba h
  obtain ⟨h2, h⟩ := He.ba h
  obtain ⟨h3, h4⟩ := He.ba h
  exact ⟨c, of_decide_eq_true h1, of_decide_eq_true h2, of_decide_eq_true h3, of_decide_eq_true h4⟩
theorem InsT.ty {K : PySem.W.Frag} {C a dx : Addr} {fs : List (Str × V)} {H : Hp} (T : InsT K C) (e : H a = some (.ins C dx fs)) : TyX K H (.ref a) (.ref C) := .base (.ins e T.cl T.ca T.cn T.ct T.cm)
namespace Rd
variable {K : PySem.W.Frag} {D : Ends} {σ : L2.St} {H H0 : Hp} {Q : VK} {S : List Addr} {l l' : Led} {te ta : TE} {x y v c : V} {t u : Value} {b : Bool}
theorem isi (ty : TyX K H x t) (cv : ClsV c u) (e : PySem.W.kitOne K t u = some b) (h : Q (.bl b) H) : rIsi K [x, c] H Q := ⟨x, c, t, u, b, rfl, cv, ty, e, h⟩
theorem isiT {p : Addr} {cs : List V} {us : List Value} (st : Stt H0 S l H) (m : (p, Is (.tup cs)) ∈ l) (ty : TyX K H x t) (cv : Paired ClsV cs us) (e : PySem.W.kitAny K t us = some b) (h : Q (.bl b) H) : rIsiT K [x, .ref p] H Q := ⟨x, p, cs, t, us, b, rfl, st.get m, cv, ty, e, h⟩
def Fld (K : PySem.W.Frag) (f : Str) (x : V) (H1 : Hp) (Q : VK) : Prop := ∃ a C dx fs v, x = .ref a ∧ H1 a = some (.ins C dx fs) ∧ Cls K C ∧ NoAttr K C f ∧ fs.lookup f = some v ∧ Q v H1
theorem fld {f : Str} (h : ta σ H fun x H1 => Fld K f x H1 Q) : tFld K ta f σ H Q := h
theorem fldI {f : Str} {p C dx : Addr} {fs : List (Str × V)} (st : Stt H0 S l H) (m : (p, Is (.ins C dx fs)) ∈ l) (c : Cls K C) (n : NoAttr K C f) (e : fs.lookup f = some v) (h : Q v H) : Fld K f (.ref p) H Q := ⟨p, C, dx, fs, v, rfl, st.get m, c, n, e, h⟩
def SFld (K : PySem.W.Frag) (f : Str) (x y : V) (H2 : Hp) (Qs : Hp → Prop) : Prop := ∃ a C dx fs, x = .ref a ∧ H2 a = some (.ins C dx fs) ∧ Cls K C ∧ NoAttr K C f ∧ fs.length < 1000 ∧ Qs (upd H2 a (.ins C dx (putF f y fs)))
theorem sfld {f : Str} {tv : TE} (h : tv σ H fun y H1 => ta σ H1 fun x H2 => SFld K f x y H2 fun H3 => D.nx σ H3) : sFld K ta tv f D σ H := h
theorem sfldI {f : Str} {p C dx : Addr} {fs : List (Str × V)} {Qs : Hp → Prop} (st : Stt H0 S l H) (m : (p, Is (.ins C dx fs)) ∈ l) (c : Cls K C) (n : NoAttr K C f) (hz : fs.length < 1000) (u : Put l p (Is (.ins C dx (putF f y fs))) l') (ha : p ∈ S ∨ H0 p = none)
    (k : ∀ H1, Stt H0 S l' H1 → Qs H1) : SFld K f (.ref p) y H Qs := ⟨p, C, dx, fs, rfl, st.get m, c, n, hz, k _ (st.set u ha)⟩
/-- C(..) -/
def Make (C : Addr) (sp : Sp) (dvs : List V) (E : XK) (vs : List V) (H1 : Hp) (Q : VK) : Prop := ∀ x dx, H1 x = none → H1 dx = none → dx ≠ x → sp (.ref x :: (vs ++ dvs)) (upd (upd H1 dx (.own x)) x (.ins C dx [])) (fun v H2 => v = .non ∧ Q (.ref x) H2) E
theorem make {C : Addr} {sp : Sp} {dvs : List V} {E : XK} {ta : TA} (h : ta σ H fun vs H1 => Make C sp dvs E vs H1 Q) : tMake C sp dvs E ta σ H Q := h
def MakeN (C : Addr) (n m : Nat) (sp : Sp) (gV : List V → List V → List V) (E : XK) (vs zs : List V) (H2 : Hp) (Q : VK) : Prop := vs.length = n ∧ zs.length = m ∧
  ∀ x dx, H2 x = none → H2 dx = none → dx ≠ x → sp (gV (.ref x :: vs) zs) (upd (upd H2 dx (.own x)) x (.ins C dx [])) (fun v H3 => v = .non ∧ Q (.ref x) H3) E
theorem gcd {a b : Int} (h : Q (.int (Int.gcd a b : Int)) H) : rGcd [.int a, .int b] H Q := ⟨a, b, rfl, h⟩
end Rd
/-- // by a divisor of either sign and many bits -/
def CDivZ (_ j : Int) : Prop := j ≠ 0 ∧ j.natAbs.log2 < 9000
theorem op_fdivZ {X : Cx} : OpR X (binaryOp .FloorDiv) (rI CDivZ fun i j => .int (i.fdiv j)) := opI fun i j _ _ _ _ _ hc q => floordiv_int hc.1 q (.inl (PyProof.noPylong_of_log2 hc.2))
theorem wide_divZ {i j : Int} {b : Nat} (h : j ≠ 0) (hb : j.natAbs < 2 ^ b) (h0 : 0 < b) (h9 : b ≤ 9000) : CDivZ i j := ⟨h, Nat.lt_of_lt_of_le (PySem.Flt.log2_lt_of h0 hb) h9⟩
theorem RelT.ref {a : Addr} : RelV (.ref a) (.ref a) := rfl
section
variable {X : Cx} {CX : CXT} {k : Nat} {f C : Addr} {fd : FuncData} {ps : List Str} {sp : Sp} {E : XK} {x : Str} {p pos : Pos} {e : Expr} {es : List Expr} {t : TA} {dvs : List V}
theorem pe_makeX (M : Mk X.K C f) (F : FnOk X.prog X.w X.K X.mg X.base CX k f fd ps sp) (hr : Room (k + 1) X.A) (hg : Gl X x) (hm : X.mg x = some (.ref C)) (hb : ∃ ds, Vals dvs ds ∧ Binds X.K fd ps ds) (hx : Passes CX X E) (ha : PA X (e :: es) t)
    (hdb : (x == ("__debug__" : Str)) = false := by decide) (he : starEach (e :: es) X.env = (false, eval e X.env) :: starEach es X.env := by rfl) (hpl : (backTo pos (starEach es X.env)).any (·.1) = false := by rfl) :
    PE X (.Call (.Name x p) (e :: es) [] pos) (tMake C sp dvs E t) := by
  obtain ⟨ds, h1, h2⟩ := hb
  exact pe_make M F hr hg hm h2 h1 hx ha hdb he hpl
theorem pe_callX (F : FnOk X.prog X.w X.K X.mg X.base CX k f fd ps sp) (hr : Room k X.A) (hg : Gl X x) (hm : X.mg x = some (.ref f)) (hk : PySem.W.keepIn X.K (.ref f) = true) (hb : ∃ ds, Vals dvs ds ∧ Binds X.K fd ps ds) (hx : Passes CX X E) (ha : PA X (e :: es) t)
    (hdb : (x == ("__debug__" : Str)) = false := by decide) (he : starEach (e :: es) X.env = (false, eval e X.env) :: starEach es X.env := by rfl) (hpl : (backTo pos (starEach es X.env)).any (·.1) = false := by rfl) :
    PE X (.Call (.Name x p) (e :: es) [] pos) (tCall sp dvs E t) := by
  obtain ⟨ds, h1, h2⟩ := hb
  exact pe_call F hr hg hm hk h2 h1 hx ha hdb he hpl
end
theorem putF_len (f : Str) (v : V) : ∀ fs : List (Str × V), (putF f v fs).length ≤ fs.length + 1
  | [] => Nat.le_refl _
  | q :: r => by
    unfold putF
    split
    · simp
    · have := putF_len f v r
      simp only [List.length_cons]
      omega
/-! ### numbers in lowest terms -/
def nO (a b : Int) : Int := (if b < 0 then -a else a) / (Int.gcd a b : Int)
def nU (a b : Int) : Int := (if b < 0 then -b else b) / (Int.gcd a b : Int)
theorem nO_neg {a b : Int} (h : b < 0) : a.fdiv (-(Int.gcd a b : Int)) = nO a b := by
  unfold nO
  rw [if_pos h, ← Int.neg_fdiv_neg, Int.neg_neg, Int.fdiv_eq_ediv_of_nonneg _ (by omega)]
theorem nU_neg {a b : Int} (h : b < 0) : b.fdiv (-(Int.gcd a b : Int)) = nU a b := by
  unfold nU
  rw [if_pos h, ← Int.neg_fdiv_neg, Int.neg_neg, Int.fdiv_eq_ediv_of_nonneg _ (by omega)]
theorem nO_pos {a b : Int} (h : ¬ b < 0) : a.fdiv (Int.gcd a b : Int) = nO a b := by
  unfold nO
  rw [if_neg h, Int.fdiv_eq_ediv_of_nonneg _ (by omega)]
theorem nU_pos {a b : Int} (h : ¬ b < 0) : b.fdiv (Int.gcd a b : Int) = nU a b := by
  unfold nU
  rw [if_neg h, Int.fdiv_eq_ediv_of_nonneg _ (by omega)]
end Lt

set_option Elab.async false
set_option linter.all false
set_option maxRecDepth 100000
set_option maxHeartbeats 2000000
namespace Lt
open PySem PySem.Spec PyProof.Rows L2
section
variable {X : Cx} {CX : CXT} {pins : List (Addr × Obj)} {σ : L2.St} {H : Hp} {s : Shared} {a C dx p g : Addr} {fs : List (Str × V)} {f : Str} {n : Nat} {sp : Sp} {E : XK} {v : V} {u : Value} {fd : FuncData} {ps : List Str} {f1 f2 : Addr} {sp1 sp2 : Sp} {fd1 : FuncData} {ps1 : List Str}
/-- x op y, x an instance of the class at C whose def for op is at g -/
def rCmpI (K : PySem.W.Frag) (C : Addr) (sp : Sp) (E : XK) : R2 := fun x y H Q => ∃ a dx fs t, x = .ref a ∧ H a = some (.ins C dx fs) ∧ TyX K H y t ∧ PySem.W.notFirst K C t = true ∧ sp [x, y] H Q E
theorem op_cmpI {op : CmpOp} (hop : ∀ a b, compareOp op a b = richCompare op a b) (hs : PySem.W.findIn X.K (.ref C) (cmpInfo op).2.1 = some (some (.ref g))) (hf : PySem.W.isFn X.K (.ref g) = true) (F : FnOk X.prog X.w X.K X.mg X.base CX n g fd ps sp)
    (hb : Binds X.K fd ps []) (hr : Room n X.A) (hx : Passes CX X E) : OpR X (compareOp op) (rCmpI X.K C sp E) := by
  intro pins s σ H x y v u Q I rx ry h
  obtain ⟨a, dx, fs, t, rfl, ha, ty, hn, q⟩ := h
  cases (show v = Value.ref a from rx)
  obtain ⟨mA, J, _⟩ := ins_get I.hok ha
  obtain ⟨od, J, _⟩ := J.look
  obtain ⟨P, kx, hp, _⟩ := kit_of I ry ty
  obtain ⟨m, hF⟩ := I.fr
  rw [hop]
  refine PySem.W.cmp_K (op := op) (tb := t) hr.units0 hF I.ok.mod.kin J (kx.ty _ _ I.kIn hp) hn hs hf ?_
  refine wpAny_mono (run_fn (vs := [.ref a, y]) (us := [.ref a, u]) F hr hb .nil hx I (.cons rfl (.cons ry .nil)) q) (fun w s' z => ?_) fun _ _ x => x
  obtain ⟨z', H', I', rz, qz⟩ := z
  exact SlX.cmpback rz ⟨z', H', I', rz, qz⟩
end
/-! ### != of a class with an own == alone -/
section
open PySem.W
variable {prog : Program} {w : World} {A : Around} {E : Value → Shared → Prop} {s : Shared} {K : Frag} {x C f : Addr} {ox : Obj} {od : Option Obj} {b tb : Value}
theorem ne_entry (X : K.In s.heap) (I : InstAt s.heap x ox C od) (hs : findIn K (.ref C) "__eq__" = some (some (.ref f))) (hf : isFn K (.ref f) = true) (hu : A.units < cLine) {Q : Fin → Shared → Prop}
    (hcall : wpAny (model prog w) A (call (.ref f) [.ref x, b]) (fun v s' => ∃ k, v = .bool k ∧ Q (.done (.ret (.bool (!k)))) s') E s) : wpAny (model prog w) A (Builtin.«object.__ne__» ⟨[.ref x, b], []⟩) Q E s := by
  obtain ⟨h, g, d, t, os⟩ := s
  unfold Builtin.«object.__ne__»
  repeat (first
    | with_reducible refine wpAny_cRoomFor hu ?_
    | (refine wpAny_bind (m := callSpecialIfBound? (.ref x) (Str.ofString "__eq__") [b])
        (ifBound_K X I hs hf (wpAny_mono hcall (fun v s' hr => by
          obtain ⟨k, rfl, hq⟩ := hr
          repeat (first | exact hq | exact wpAny_pure hq | exact wpAny_truthy_bool hq | (refine wpAny_bind (m := truthy (.bool _)) (wpAny_truthy_bool ?_)) | wp_step)) fun _ _ e => e)))
    | wp_step)
theorem check_ne (X : K.In s.heap) (I : InstAt s.heap x ox C od) (hob : subIn K (.ref C) (.type "object") = some true) {Q : Unit → Shared → Prop} (hq : Q () s) : wpAny (model prog w) A (checkBuiltinCall "object.__ne__" ⟨[.ref x, b], []⟩) Q E s := by
  obtain ⟨h, g, d, t, os⟩ := s
  simp only [checkBuiltinCall, F.cmpKind_ne, F.cmpSplit_ne]
  have ha := F.cmpArgs_ne (.ref x) b
  refine wpAny_bind ?_
  · unfold isInstance
    have L1 : Looks (model prog w) h (typeOf (.ref x)) (.ref C) := I.type
    have L2 : Looks (model prog w) h (isSubtype (.ref C) (.type "object")) true := looks_subIn X hob
    repeat lk
    exact hq
theorem bind_ne {M : Model} {h : Heap} (self : Value) : Looks M h (bindSpecial (.builtin "object.__ne__") self) (.builtin "object.__ne__", [self]) := Looks.of_pure (F.cmp_object.ne.bind self)
theorem ifBound_ne {args : List Value} {Q : Option Value → Shared → Prop} (X : K.In s.heap) (I : InstAt s.heap x ox C od) (hs : findIn K (.ref C) "__ne__" = some (some (.builtin "object.__ne__")))
    (h : wpAny (model prog w) A (call (.builtin "object.__ne__") (.ref x :: args)) (fun v => Q (some v)) E s) : wpAny (model prog w) A (callSpecialIfBound? (.ref x) "__ne__" args) Q E s := by
  simp only [callSpecialIfBound?, bindSpecialIfBound?]
  refine wpAny_holding (wpAny_bind (wpAny_bind (wpAny_bind (I.type.here ((looks_findIn X hs).here ?_)))))
  refine wpAny_bind (wpAny_askSetting (wpAny_ite ?_))
  have fin : wpAny (model prog w) A (call (.builtin "object.__ne__") ([.ref x] ++ args) >>= fun v => pure (some v)) Q E s := wpAny_bind (wpAny_mono h (fun v s' h' => wpAny_pure h') fun _ _ h' => h')
  split
  · exact wpAny_bind ((bind_ne _).here (wpAny_pure (by exact fin)))
  · exact wpAny_tryCatch (wpAny_bind ((bind_ne _).here (wpAny_pure (by exact fin))))
theorem ne_K {Q : Value → Shared → Prop} (hu : A.units + 1 < cLine) (X : K.In s.heap) (I : InstAt s.heap x ox C od) (hb : Looks (model prog w) s.heap (typeOf b) tb) (hn : notFirst K C tb = true)
    (hne : findIn K (.ref C) "__ne__" = some (some (.builtin "object.__ne__"))) (hob : subIn K (.ref C) (.type "object") = some true) (hs : findIn K (.ref C) "__eq__" = some (some (.ref f))) (hf : isFn K (.ref f) = true)
    (h : wpAny (model prog w) A.in1 (call (.ref f) [.ref x, b]) (fun v s' => ∃ k, v = .bool k ∧ Q (.bool (!k)) s') E s) : wpAny (model prog w) A (richCompare .NotEq (.ref x) b) Q E s := by
  have one : wpAny (model prog w) A (tryCompare (.ref x) "__ne__" b) (fun r s' => ∃ v, r = some v ∧ Q v s') E s := by
    unfold tryCompare
    refine wpAny_bind (ifBound_ne X I hne (wpAny_call (codeAny_call_builtin F.cmp_object.ne.plain F.cmpEntry_ne (check_ne X I hob (ne_entry (A := A.in1) X I hs hf hu (wpAny_mono h (fun v s' hv => ?_) fun _ _ e => e))))))
    obtain ⟨k, rfl, hq⟩ := hv
    exact ⟨k, rfl, wpAny_pure ⟨_, rfl, hq⟩⟩
  unfold richCompare
  simp only [oneThing_ref, cmpInfo_NotEq]
  refine wpAny_holding (wpAny_bind (wpAny_cRoomFor (Nat.lt_of_succ_lt hu) ?_))
  refine wpAny_bind (I.type.here (wpAny_bind (hb.here ?_)))
  split
  · rename_i q
    have e : subIn K tb (.ref C) = some false := by
      rcases Bool.or_eq_true_iff.mp hn with e | e
      · rw [beq_iff_eq.mp e] at q; simp at q
      · exact beq_iff_eq.mp e
    refine wpAny_bind ((looks_subIn X e).here ?_)
    simp only [Bool.false_eq_true, if_false]
    refine wpAny_bind (wpAny_mono one (fun r s' z => ?_) fun _ _ e => e)
    obtain ⟨v, rfl, hq⟩ := z
    exact wpAny_pure hq
  · refine wpAny_bind (wpAny_pure ?_)
    simp only [Bool.false_eq_true, if_false]
    refine wpAny_bind (wpAny_mono one (fun r s' z => ?_) fun _ _ e => e)
    obtain ⟨v, rfl, hq⟩ := z
    exact wpAny_pure hq
end
section
variable {X : Cx} {CX : CXT} {g C : Addr} {n : Nat} {sp : Sp} {E : XK} {fd : FuncData} {ps : List Str}
/-- a def called somewhere below the running body -/
theorem run_below {A : Around} {pins : List (Addr × Obj)} {σ : L2.St} {H : Hp} {s : Shared} {Q : VK} {us : List Value} {vs : List V} (F : FnOk X.prog X.w X.K X.mg X.base CX n g fd ps sp) (hA : L2.Sub X n A) (hb : Binds X.K fd ps []) (hx : Passes CX X E)
    (I : Inv X pins σ H s) (r : Vals vs us) (h : sp vs H Q E) : wpAny (model X.prog X.w) A (call (.ref g) us) (EP X pins σ Q) X.xe s := by
  have hl : us.length = ps.length := by rw [← r.length]; exact F.len _ _ _ _ h
  have e0 : Env0 X.prog X.w X.K X.mg X.base A X.stack s H := by
    have e := I.env0
    exact ⟨by rw [hA.fr]; exact e.frames, e.mod, e.bs, e.bsz, e.funs, e.frf, e.hok, e.bare⟩
  refine wpAny_call (codeAny_mono (F.run A X.stack s H ⟨us, []⟩ us vs Q E hA.room e0 (by
    have := hb s us I.kIn (by simpa using hl)
    simpa using this) r h) fun r s' hq => ?_)
  cases r with
  | error e => exact hx pins σ H s e s' I hq
  | ok fl =>
    cases fl with
    | ret u => exact I.after hq
    | next => exact False.elim hq
    | brk => exact False.elim hq
    | cont => exact False.elim hq
/-- x != y by x's own == -/
def rNeI (K : PySem.W.Frag) (C : Addr) (sp : Sp) (E : XK) : R2 := fun x y H Q => ∃ a dx fs t, x = .ref a ∧ H a = some (.ins C dx fs) ∧ TyX K H y t ∧ PySem.W.notFirst K C t = true ∧ sp [x, y] H (fun v H' => ∃ k, v = .bl k ∧ Q (.bl (!k)) H') E
theorem op_neI (hne : PySem.W.findIn X.K (.ref C) "__ne__" = some (some (.builtin "object.__ne__"))) (hob : PySem.W.subIn X.K (.ref C) (.type "object") = some true) (hs : PySem.W.findIn X.K (.ref C) "__eq__" = some (some (.ref g))) (hf : PySem.W.isFn X.K (.ref g) = true)
    (F : FnOk X.prog X.w X.K X.mg X.base CX n g fd ps sp) (hb : Binds X.K fd ps []) (hr : Room (n + 1) X.A) (hx : Passes CX X E) : OpR X (compareOp .NotEq) (rNeI X.K C sp E) := by
  intro pins s σ H x y v u Q I rx ry h
  obtain ⟨a, dx, fs, t, rfl, ha, ty, hn, q⟩ := h
  cases (show v = Value.ref a from rx)
  obtain ⟨mA, J, _⟩ := ins_get I.hok ha
  obtain ⟨od, J, _⟩ := J.look
  obtain ⟨P, kx, hp, _⟩ := kit_of I ry ty
  refine ne_K (tb := t) (hu_of hr) I.kIn J (kx.ty _ _ I.kIn hp) hn hne hob hs hf ?_
  refine wpAny_mono (run_below (A := X.A.in1) (vs := [.ref a, y]) (us := [.ref a, u]) F (L2.Sub.in1 ⟨hr, rfl⟩) hb hx I (.cons rfl (.cons ry .nil)) q) (fun w s' z => ?_) fun _ _ x => x
  obtain ⟨z', H', I', rz, k, rfl, qz⟩ := z
  cases (show w = Value.bool k from rz)
  exact ⟨k, rfl, .bl (!k), H', I', rfl, qz⟩
end
open PySem.W AutoSeq1 in
theorem refl_K {prog : Program} {w : World} {A : Around} {E : Value → Shared → Prop} {s : Shared} {K : Frag} {y C f : Addr} {oy : Obj} {od : Option Obj} {a : Value} {T : String} {op : CmpOp} {Q : Value → Shared → Prop} (hu : A.units < cLine) (ha : s.TypeIs a T) (X : K.In s.heap) (I : InstAt s.heap y oy C od)
    (hsub : subIn K (.ref C) (.type T) = some false) (hd : ∀ Q' : Option Value → Shared → Prop, Q' none s → wpAny (model prog w) A (tryCompare a (cmpInfo op).2.1 (.ref y)) Q' E s)
    (hs : findIn K (.ref C) (cmpInfo op).2.2 = some (some (.ref f))) (hf : isFn K (.ref f) = true)
    (h : wpAny (model prog w) A (call (.ref f) [.ref y, a]) (PySem.W.CmpBack Q) E s) : wpAny (model prog w) A (richCompare op a (.ref y)) Q E s := by
  have one : wpAny (model prog w) A (tryCompare (.ref y) (cmpInfo op).2.2 a) (fun r s' => ∃ v, r = some v ∧ Q v s') E s := by
    unfold tryCompare
    refine wpAny_bind (ifBound_K X I hs hf (wpAny_mono h (fun v s' hv => ?_) fun _ _ e => e))
    cases v <;> first | exact hv.elim | exact wpAny_pure ⟨_, rfl, hv⟩
  rcases hi : cmpInfo op with ⟨sym, fn, rn⟩
  rw [hi] at hd one
  unfold richCompare
  simp only [hi, ha.oneThing_none]
  refine wpAny_holding (wpAny_bind (wpAny_cRoomFor hu ?_))
  refine wpAny_bind (wpAny_typeOf ha (wpAny_bind (I.type.here ?_)))
  have hne : (Value.type T != Value.ref C) = true := rfl
  simp only [hne, if_true]
  refine wpAny_bind ((looks_subIn X hsub).here ?_)
  simp only [Bool.false_eq_true, if_false, Bool.not_false, if_true]
  refine wpAny_bind (hd _ ?_)
  dsimp only
  refine wpAny_bind (wpAny_mono one (fun r s' z => ?_) fun _ _ e => e)
  obtain ⟨v, rfl, hq⟩ := z
  exact wpAny_pure hq
/-! ### built-in values that decline an instance of an own class -/
section
open PySem.W
theorem dec_int_eq (a : Int) (t : Tok) (y C dy : Addr) :
    Meets (Builtin.«int.__eq__» ⟨[.int a t, .ref y], []⟩) (fun _ R s => s.heap.get? y = some (instObj C dy) ∧ R (.ok (.ret .notImplemented)) s) :=
  .of_wp fun prog w A R s h => by obtain ⟨hp, g, d, tk, os⟩ := s; obtain ⟨hl, h⟩ := h; wp_walk using wpAny_loadPart' hl, wpAny_load hl; exact ⟨_, rfl, h⟩
theorem dec_int_ne (a : Int) (t : Tok) (y C dy : Addr) :
    Meets (Builtin.«int.__ne__» ⟨[.int a t, .ref y], []⟩) (fun _ R s => s.heap.get? y = some (instObj C dy) ∧ R (.ok (.ret .notImplemented)) s) :=
  .of_wp fun prog w A R s h => by obtain ⟨hp, g, d, tk, os⟩ := s; obtain ⟨hl, h⟩ := h; wp_walk using wpAny_loadPart' hl, wpAny_load hl; exact ⟨_, rfl, h⟩
theorem dec_int_lt (a : Int) (t : Tok) (y C dy : Addr) :
    Meets (Builtin.«int.__lt__» ⟨[.int a t, .ref y], []⟩) (fun _ R s => s.heap.get? y = some (instObj C dy) ∧ R (.ok (.ret .notImplemented)) s) :=
  .of_wp fun prog w A R s h => by obtain ⟨hp, g, d, tk, os⟩ := s; obtain ⟨hl, h⟩ := h; wp_walk using wpAny_loadPart' hl, wpAny_load hl; exact ⟨_, rfl, h⟩
theorem dec_int_le (a : Int) (t : Tok) (y C dy : Addr) :
    Meets (Builtin.«int.__le__» ⟨[.int a t, .ref y], []⟩) (fun _ R s => s.heap.get? y = some (instObj C dy) ∧ R (.ok (.ret .notImplemented)) s) :=
  .of_wp fun prog w A R s h => by obtain ⟨hp, g, d, tk, os⟩ := s; obtain ⟨hl, h⟩ := h; wp_walk using wpAny_loadPart' hl, wpAny_load hl; exact ⟨_, rfl, h⟩
theorem dec_int_gt (a : Int) (t : Tok) (y C dy : Addr) :
    Meets (Builtin.«int.__gt__» ⟨[.int a t, .ref y], []⟩) (fun _ R s => s.heap.get? y = some (instObj C dy) ∧ R (.ok (.ret .notImplemented)) s) :=
  .of_wp fun prog w A R s h => by obtain ⟨hp, g, d, tk, os⟩ := s; obtain ⟨hl, h⟩ := h; wp_walk using wpAny_loadPart' hl, wpAny_load hl; exact ⟨_, rfl, h⟩
theorem dec_int_ge (a : Int) (t : Tok) (y C dy : Addr) :
    Meets (Builtin.«int.__ge__» ⟨[.int a t, .ref y], []⟩) (fun _ R s => s.heap.get? y = some (instObj C dy) ∧ R (.ok (.ret .notImplemented)) s) :=
  .of_wp fun prog w A R s h => by obtain ⟨hp, g, d, tk, os⟩ := s; obtain ⟨hl, h⟩ := h; wp_walk using wpAny_loadPart' hl, wpAny_load hl; exact ⟨_, rfl, h⟩
theorem dec_int_add (a : Int) (t : Tok) (y C dy : Addr) :
    Meets (Builtin.«int.__add__» ⟨[.int a t, .ref y], []⟩) (fun _ R s => s.heap.get? y = some (instObj C dy) ∧ R (.ok (.ret .notImplemented)) s) :=
  .of_wp fun prog w A R s h => by obtain ⟨hp, g, d, tk, os⟩ := s; obtain ⟨hl, h⟩ := h; wp_walk using wpAny_loadPart' hl, wpAny_load hl; exact ⟨_, rfl, h⟩
theorem dec_int_sub (a : Int) (t : Tok) (y C dy : Addr) :
    Meets (Builtin.«int.__sub__» ⟨[.int a t, .ref y], []⟩) (fun _ R s => s.heap.get? y = some (instObj C dy) ∧ R (.ok (.ret .notImplemented)) s) :=
  .of_wp fun prog w A R s h => by obtain ⟨hp, g, d, tk, os⟩ := s; obtain ⟨hl, h⟩ := h; wp_walk using wpAny_loadPart' hl, wpAny_load hl; exact ⟨_, rfl, h⟩
theorem dec_int_mul (a : Int) (t : Tok) (y C dy : Addr) :
    Meets (Builtin.«int.__mul__» ⟨[.int a t, .ref y], []⟩) (fun _ R s => s.heap.get? y = some (instObj C dy) ∧ R (.ok (.ret .notImplemented)) s) :=
  .of_wp fun prog w A R s h => by obtain ⟨hp, g, d, tk, os⟩ := s; obtain ⟨hl, h⟩ := h; wp_walk using wpAny_loadPart' hl, wpAny_load hl; exact ⟨_, rfl, h⟩
theorem dec_int_floordiv (a : Int) (t : Tok) (y C dy : Addr) :
    Meets (Builtin.«int.__floordiv__» ⟨[.int a t, .ref y], []⟩) (fun _ R s => s.heap.get? y = some (instObj C dy) ∧ R (.ok (.ret .notImplemented)) s) :=
  .of_wp fun prog w A R s h => by obtain ⟨hp, g, d, tk, os⟩ := s; obtain ⟨hl, h⟩ := h; wp_walk using wpAny_loadPart' hl, wpAny_load hl; exact ⟨_, rfl, h⟩
theorem dec_int_mod (a : Int) (t : Tok) (y C dy : Addr) :
    Meets (Builtin.«int.__mod__» ⟨[.int a t, .ref y], []⟩) (fun _ R s => s.heap.get? y = some (instObj C dy) ∧ R (.ok (.ret .notImplemented)) s) :=
  .of_wp fun prog w A R s h => by obtain ⟨hp, g, d, tk, os⟩ := s; obtain ⟨hl, h⟩ := h; wp_walk using wpAny_loadPart' hl, wpAny_load hl; exact ⟨_, rfl, h⟩
theorem dec_bool_eq (a : Bool) (y C dy : Addr) :
    Meets (Builtin.«int.__eq__» ⟨[.bool a, .ref y], []⟩) (fun _ R s => s.heap.get? y = some (instObj C dy) ∧ R (.ok (.ret .notImplemented)) s) :=
  .of_wp fun prog w A R s h => by obtain ⟨hp, g, d, tk, os⟩ := s; obtain ⟨hl, h⟩ := h; wp_walk using wpAny_loadPart' hl, wpAny_load hl; exact ⟨_, rfl, h⟩
theorem dec_bool_ne (a : Bool) (y C dy : Addr) :
    Meets (Builtin.«int.__ne__» ⟨[.bool a, .ref y], []⟩) (fun _ R s => s.heap.get? y = some (instObj C dy) ∧ R (.ok (.ret .notImplemented)) s) :=
  .of_wp fun prog w A R s h => by obtain ⟨hp, g, d, tk, os⟩ := s; obtain ⟨hl, h⟩ := h; wp_walk using wpAny_loadPart' hl, wpAny_load hl; exact ⟨_, rfl, h⟩
theorem dec_bool_lt (a : Bool) (y C dy : Addr) :
    Meets (Builtin.«int.__lt__» ⟨[.bool a, .ref y], []⟩) (fun _ R s => s.heap.get? y = some (instObj C dy) ∧ R (.ok (.ret .notImplemented)) s) :=
  .of_wp fun prog w A R s h => by obtain ⟨hp, g, d, tk, os⟩ := s; obtain ⟨hl, h⟩ := h; wp_walk using wpAny_loadPart' hl, wpAny_load hl; exact ⟨_, rfl, h⟩
theorem dec_bool_le (a : Bool) (y C dy : Addr) :
    Meets (Builtin.«int.__le__» ⟨[.bool a, .ref y], []⟩) (fun _ R s => s.heap.get? y = some (instObj C dy) ∧ R (.ok (.ret .notImplemented)) s) :=
  .of_wp fun prog w A R s h => by obtain ⟨hp, g, d, tk, os⟩ := s; obtain ⟨hl, h⟩ := h; wp_walk using wpAny_loadPart' hl, wpAny_load hl; exact ⟨_, rfl, h⟩
theorem dec_bool_gt (a : Bool) (y C dy : Addr) :
    Meets (Builtin.«int.__gt__» ⟨[.bool a, .ref y], []⟩) (fun _ R s => s.heap.get? y = some (instObj C dy) ∧ R (.ok (.ret .notImplemented)) s) :=
  .of_wp fun prog w A R s h => by obtain ⟨hp, g, d, tk, os⟩ := s; obtain ⟨hl, h⟩ := h; wp_walk using wpAny_loadPart' hl, wpAny_load hl; exact ⟨_, rfl, h⟩
theorem dec_bool_ge (a : Bool) (y C dy : Addr) :
    Meets (Builtin.«int.__ge__» ⟨[.bool a, .ref y], []⟩) (fun _ R s => s.heap.get? y = some (instObj C dy) ∧ R (.ok (.ret .notImplemented)) s) :=
  .of_wp fun prog w A R s h => by obtain ⟨hp, g, d, tk, os⟩ := s; obtain ⟨hl, h⟩ := h; wp_walk using wpAny_loadPart' hl, wpAny_load hl; exact ⟨_, rfl, h⟩
theorem dec_bool_add (a : Bool) (y C dy : Addr) :
    Meets (Builtin.«int.__add__» ⟨[.bool a, .ref y], []⟩) (fun _ R s => s.heap.get? y = some (instObj C dy) ∧ R (.ok (.ret .notImplemented)) s) :=
  .of_wp fun prog w A R s h => by obtain ⟨hp, g, d, tk, os⟩ := s; obtain ⟨hl, h⟩ := h; wp_walk using wpAny_loadPart' hl, wpAny_load hl; exact ⟨_, rfl, h⟩
theorem dec_bool_sub (a : Bool) (y C dy : Addr) :
    Meets (Builtin.«int.__sub__» ⟨[.bool a, .ref y], []⟩) (fun _ R s => s.heap.get? y = some (instObj C dy) ∧ R (.ok (.ret .notImplemented)) s) :=
  .of_wp fun prog w A R s h => by obtain ⟨hp, g, d, tk, os⟩ := s; obtain ⟨hl, h⟩ := h; wp_walk using wpAny_loadPart' hl, wpAny_load hl; exact ⟨_, rfl, h⟩
theorem dec_bool_mul (a : Bool) (y C dy : Addr) :
    Meets (Builtin.«int.__mul__» ⟨[.bool a, .ref y], []⟩) (fun _ R s => s.heap.get? y = some (instObj C dy) ∧ R (.ok (.ret .notImplemented)) s) :=
  .of_wp fun prog w A R s h => by obtain ⟨hp, g, d, tk, os⟩ := s; obtain ⟨hl, h⟩ := h; wp_walk using wpAny_loadPart' hl, wpAny_load hl; exact ⟨_, rfl, h⟩
theorem dec_bool_floordiv (a : Bool) (y C dy : Addr) :
    Meets (Builtin.«int.__floordiv__» ⟨[.bool a, .ref y], []⟩) (fun _ R s => s.heap.get? y = some (instObj C dy) ∧ R (.ok (.ret .notImplemented)) s) :=
  .of_wp fun prog w A R s h => by obtain ⟨hp, g, d, tk, os⟩ := s; obtain ⟨hl, h⟩ := h; wp_walk using wpAny_loadPart' hl, wpAny_load hl; exact ⟨_, rfl, h⟩
theorem dec_bool_mod (a : Bool) (y C dy : Addr) :
    Meets (Builtin.«int.__mod__» ⟨[.bool a, .ref y], []⟩) (fun _ R s => s.heap.get? y = some (instObj C dy) ∧ R (.ok (.ret .notImplemented)) s) :=
  .of_wp fun prog w A R s h => by obtain ⟨hp, g, d, tk, os⟩ := s; obtain ⟨hl, h⟩ := h; wp_walk using wpAny_loadPart' hl, wpAny_load hl; exact ⟨_, rfl, h⟩
theorem dec_str_eq (a : Str) (t : Tok) (y C dy : Addr) :
    Meets (Builtin.«str.__eq__» ⟨[.str a t, .ref y], []⟩) (fun _ R s => s.heap.get? y = some (instObj C dy) ∧ R (.ok (.ret .notImplemented)) s) :=
  .of_wp fun prog w A R s h => by obtain ⟨hp, g, d, tk, os⟩ := s; obtain ⟨hl, h⟩ := h; wp_walk using wpAny_loadPart' hl, wpAny_load hl; exact ⟨_, rfl, h⟩
theorem dec_none_eq  (y C dy : Addr) :
    Meets (Builtin.«NoneType.__eq__» ⟨[.none, .ref y], []⟩) (fun _ R s => s.heap.get? y = some (instObj C dy) ∧ R (.ok (.ret .notImplemented)) s) :=
  .of_wp fun prog w A R s h => by obtain ⟨hp, g, d, tk, os⟩ := s; obtain ⟨hl, h⟩ := h; wp_walk using wpAny_loadPart' hl, wpAny_load hl; exact ⟨_, rfl, h⟩
end
/-! ### x op y, y an instance, x a built-in value that declines -/
section
variable {X : Cx} {CX : CXT} {g C : Addr} {n : Nat} {sp : Sp} {E : XK} {fd : FuncData} {ps : List Str}
/-- P tells which values x are such -/
def rCmpR (C : Addr) (P : V → Hp → Prop) (sp : Sp) (E : XK) : R2 := fun x y H Q => ∃ b dy fs, y = .ref b ∧ H b = some (.ins C dy fs) ∧ P x H ∧ sp [y, x] H Q E
/-- what is to be known of such values -/
def Declines (X : Cx) (C : Addr) (op : CmpOp) (P : V → Hp → Prop) : Prop := ∀ (pins : List (Addr × Obj)) (s : Shared) (σ : L2.St) (H : Hp) (x : V) (u : Value) (b dy : Addr), Inv X pins σ H s → RelV x u → P x H → s.heap.get? b = some (PySem.W.instObj C dy) →
  ∃ T, s.TypeIs u T ∧ PySem.W.subIn X.K (.ref C) (.type T) = some false ∧ ∀ (E : Value → Shared → Prop) (Q' : Option Value → Shared → Prop), Q' none s → wpAny (model X.prog X.w) X.A (tryCompare u (cmpInfo op).2.1 (.ref b)) Q' E s
theorem op_refl {op : CmpOp} {P : V → Hp → Prop} (hop : ∀ a b, compareOp op a b = richCompare op a b) (hd : Declines X C op P) (hs : PySem.W.findIn X.K (.ref C) (cmpInfo op).2.2 = some (some (.ref g))) (hf : PySem.W.isFn X.K (.ref g) = true)
    (F : FnOk X.prog X.w X.K X.mg X.base CX n g fd ps sp) (hb : Binds X.K fd ps []) (hr : Room n X.A) (hx : Passes CX X E) : OpR X (compareOp op) (rCmpR C P sp E) := by
  intro pins s σ H x y v u Q I rx ry h
  obtain ⟨b, dy, fs, rfl, hb', hp, q⟩ := h
  cases (show u = Value.ref b from ry)
  obtain ⟨mA, J, _⟩ := ins_get I.hok hb'
  have hobj := J.obj
  obtain ⟨od, J, _⟩ := J.look
  obtain ⟨T, ht, hsub, hdec⟩ := hd pins s σ H x v b dy I rx hp hobj
  rw [hop]
  refine refl_K (op := op) hr.units0 ht I.kIn J hsub (hdec _) hs hf ?_
  refine wpAny_mono (run_fn (vs := [.ref b, x]) (us := [.ref b, v]) F hr hb .nil hx I (.cons rfl (.cons rx .nil)) q) (fun w s' z => ?_) fun _ _ x => x
  obtain ⟨z', H', I', rz, qz⟩ := z
  exact SlX.cmpback rz ⟨z', H', I', rz, qz⟩
def IsI (x : V) (_ : Hp) : Prop := ∃ i, x = .int i
theorem declines_int_eq (h : PySem.W.subIn X.K (.ref C) (.type "int") = some false) : Declines X C .Eq IsI := by
  rintro pins s σ H x u b dy I rx ⟨i, rfl⟩ hb
  obtain ⟨t, e⟩ := (show ∃ t, u = Value.int i t from rx)
  subst e
  exact ⟨"int", typeIs_int s i t, h, fun E Q' hq => wpAny_tryCompare_declines (typeIs_int s i t) F.slot_int_eq (call_meets F.slot_int_eq (typeIs_int s i t) F.entry_int_eq (F.args_int_eq_2 _ _) (dec_int_eq i t b C dy) ⟨hb, ⟨rfl, hq⟩⟩)⟩
theorem declines_int_ne (h : PySem.W.subIn X.K (.ref C) (.type "int") = some false) : Declines X C .NotEq IsI := by
  rintro pins s σ H x u b dy I rx ⟨i, rfl⟩ hb
  obtain ⟨t, e⟩ := (show ∃ t, u = Value.int i t from rx)
  subst e
  exact ⟨"int", typeIs_int s i t, h, fun E Q' hq => wpAny_tryCompare_declines (typeIs_int s i t) F.slot_int_ne (call_meets F.slot_int_ne (typeIs_int s i t) F.entry_int_ne (F.args_int_ne_2 _ _) (dec_int_ne i t b C dy) ⟨hb, ⟨rfl, hq⟩⟩)⟩
theorem declines_int_lt (h : PySem.W.subIn X.K (.ref C) (.type "int") = some false) : Declines X C .Lt IsI := by
  rintro pins s σ H x u b dy I rx ⟨i, rfl⟩ hb
  obtain ⟨t, e⟩ := (show ∃ t, u = Value.int i t from rx)
  subst e
  exact ⟨"int", typeIs_int s i t, h, fun E Q' hq => wpAny_tryCompare_declines (typeIs_int s i t) F.slot_int_lt (call_meets F.slot_int_lt (typeIs_int s i t) F.entry_int_lt (F.args_int_lt_2 _ _) (dec_int_lt i t b C dy) ⟨hb, ⟨rfl, hq⟩⟩)⟩
theorem declines_int_le (h : PySem.W.subIn X.K (.ref C) (.type "int") = some false) : Declines X C .LtE IsI := by
  rintro pins s σ H x u b dy I rx ⟨i, rfl⟩ hb
  obtain ⟨t, e⟩ := (show ∃ t, u = Value.int i t from rx)
  subst e
  exact ⟨"int", typeIs_int s i t, h, fun E Q' hq => wpAny_tryCompare_declines (typeIs_int s i t) F.slot_int_le (call_meets F.slot_int_le (typeIs_int s i t) F.entry_int_le (F.args_int_le_2 _ _) (dec_int_le i t b C dy) ⟨hb, ⟨rfl, hq⟩⟩)⟩
theorem declines_int_gt (h : PySem.W.subIn X.K (.ref C) (.type "int") = some false) : Declines X C .Gt IsI := by
  rintro pins s σ H x u b dy I rx ⟨i, rfl⟩ hb
  obtain ⟨t, e⟩ := (show ∃ t, u = Value.int i t from rx)
  subst e
  exact ⟨"int", typeIs_int s i t, h, fun E Q' hq => wpAny_tryCompare_declines (typeIs_int s i t) F.slot_int_gt (call_meets F.slot_int_gt (typeIs_int s i t) F.entry_int_gt (F.args_int_gt_2 _ _) (dec_int_gt i t b C dy) ⟨hb, ⟨rfl, hq⟩⟩)⟩
theorem declines_int_ge (h : PySem.W.subIn X.K (.ref C) (.type "int") = some false) : Declines X C .GtE IsI := by
  rintro pins s σ H x u b dy I rx ⟨i, rfl⟩ hb
  obtain ⟨t, e⟩ := (show ∃ t, u = Value.int i t from rx)
  subst e
  exact ⟨"int", typeIs_int s i t, h, fun E Q' hq => wpAny_tryCompare_declines (typeIs_int s i t) F.slot_int_ge (call_meets F.slot_int_ge (typeIs_int s i t) F.entry_int_ge (F.args_int_ge_2 _ _) (dec_int_ge i t b C dy) ⟨hb, ⟨rfl, hq⟩⟩)⟩
end
/-! ### binary operators -/
section
open PySem.W
variable {prog : Program} {w : World} {A : Around} {E : Value → Shared → Prop} {s : Shared} {K : Frag} {y C f g : Addr} {oy : Obj} {od : Option Obj} {a : Value} {T : String} {fo ro rc : Option Value}
theorem binR_K {op : Operator} {Q : Value → Shared → Prop} (X : K.In s.heap) (I : InstAt s.heap y oy C od) (ha : typeOf a = pure (.type T)) (hc : selfFirst K C = true)
    (hs : findIn K (.ref C) (PySem.dunder op.info.2) = some (some (.ref g))) (hs2 : findIn K (.ref C) (dunderR op.info.2) = some (some (.ref f))) (hf : isFn K (.ref f) = true)
    (h1 : findIn K (.type T) (PySem.dunder op.info.2) = some fo) (h2 : findIn K (.type T) (dunderR op.info.2) = some ro) (hsub : subIn K (.ref C) (.type T) = some false)
    (hd : ∀ Q' : Option Value → Shared → Prop, Q' none s → wpAny (model prog w) A (tryMethod a (PySem.dunder op.info.2) (.ref y)) Q' E s)
    (h : wpAny (model prog w) A (call (.ref f) [.ref y, a]) (PySem.W.CmpBack Q) E s) : wpAny (model prog w) A (binaryOp op a (.ref y)) Q E s := by
  obtain ⟨cd, rest, hcd, hm⟩ := ksp_first hc
  rcases hi : op.info with ⟨sym, nm'⟩
  rw [hi] at hs hs2 h1 h2 hd
  dsimp only at hs hs2 h1 h2 hd
  have one := ksp_try X I hs2 hf h
  obtain ⟨hh, gg, d, tt, os⟩ := s
  have L1 : Looks (model prog w) hh (typeOf (.ref y)) (.ref C) := I.type
  have L2 : Looks (model prog w) hh (typeOf a) (.type T) := Looks.of_pure ha
  have L3 : Looks (model prog w) hh (fillsNumberSlot (.ref C) nm') true := fills_K X hcd hm hs
  have L4 : Looks (model prog w) hh (fillsNumberSlot (.type T) nm') ((fo.isSome && !isSeqSlot fo) || (ro.isSome && !isSeqSlot ro)) := ksp_fillsT X h1 h2
  have L5 : Looks (model prog w) hh (isSubtype (.ref C) (.type T)) false := looks_subIn X hsub
  have L7 : Looks (model prog w) hh (numberSlotInPython (.type T) nm') false := Looks.of_pure rfl
  generalize ((fo.isSome && !isSeqSlot fo) || (ro.isSome && !isSeqSlot ro)) = left at L4
  have hne : (Value.type T == Value.ref C) = false := Bool.eq_false_iff.mpr fun q => by cases beq_iff_eq.mp q
  simp only [binaryOp, hi]
  refine wpAny_holding (wpAny_bind ?_)
  unfold binaryOp1
  refine wpAny_bind (L2.at (wpAny_bind (L1.at (wpAny_bind (L4.at ?_)))))
  simp only [hne, Bool.false_eq_true, if_false]
  cases left with
  | false =>
    ksp_lk
    refine wpAny_mono one (fun r s' hr' => ?_) fun _ _ e => e
    obtain ⟨v, rfl, hq⟩ := hr'
    ksp_lk
    exact hq
  | true =>
    ksp_lk
    refine hd _ ?_
    ksp_lk
    refine wpAny_mono one (fun r s' hr' => ?_) fun _ _ e => e
    obtain ⟨v, rfl, hq⟩ := hr'
    ksp_lk
    exact hq
end
end Lt

set_option Elab.async false
set_option linter.all false
set_option maxRecDepth 100000
set_option maxHeartbeats 2000000
namespace Lt
open PySem PySem.Spec PyProof.Rows L2
section
variable {X : Cx} {CX : CXT} {g g2 C : Addr} {n : Nat} {sp : Sp} {E : XK} {fd : FuncData} {ps : List Str}
/-- what K says of a class with the operator's two defs, at g (left) and g2 (reflected) -/
structure BinOps (K : PySem.W.Frag) (C : Addr) (op : Operator) (g g2 : Addr) : Prop where
  first : PySem.W.selfFirst K C = true
  l : PySem.W.findIn K (.ref C) (PySem.dunder op.info.2) = some (some (.ref g))
  r : PySem.W.findIn K (.ref C) (dunderR op.info.2) = some (some (.ref g2))
  fl : PySem.W.isFn K (.ref g) = true
  fr : PySem.W.isFn K (.ref g2) = true
  i1 : ∃ fo, PySem.W.findIn K (.type "int") (PySem.dunder op.info.2) = some fo
  i2 : ∃ ro, PySem.W.findIn K (.type "int") (dunderR op.info.2) = some ro
  s1 : PySem.W.subIn K (.type "int") (.ref C) = some false
  s2 : PySem.W.subIn K (.ref C) (.type "int") = some false
/-- x op y, x an instance, y an int or an instance of the same class -/
def rBinL (C : Addr) (sp : Sp) (E : XK) : R2 := fun x y H Q => ∃ a dx fs, x = .ref a ∧ H a = some (.ins C dx fs) ∧ ((∃ i, y = .int i) ∨ ∃ b dy gs, y = .ref b ∧ H b = some (.ins C dy gs)) ∧ sp [x, y] H Q E
theorem op_binL {op : Operator} (B : BinOps X.K C op g g2) (F : FnOk X.prog X.w X.K X.mg X.base CX n g fd ps sp) (hb : Binds X.K fd ps []) (hr : Room n X.A) (hx : Passes CX X E) : OpR X (binaryOp op) (rBinL C sp E) := by
  intro pins s σ H x y v u Q I rx ry h
  obtain ⟨a, dx, fs, rfl, ha, hy, q⟩ := h
  cases (show v = Value.ref a from rx)
  obtain ⟨mA, J, _⟩ := ins_get I.hok ha
  obtain ⟨od, J, _⟩ := J.look
  obtain ⟨m, hF⟩ := I.fr
  have fin : wpAny (model X.prog X.w) X.A (call (.ref g) [.ref a, u]) (PySem.W.CmpBack (EP X pins σ Q)) X.xe s := by
    refine wpAny_mono (run_fn (vs := [.ref a, y]) (us := [.ref a, u]) F hr hb .nil hx I (.cons rfl (.cons ry .nil)) q) (fun w s' z => ?_) fun _ _ x => x
    obtain ⟨z', H', I', rz, qz⟩ := z
    exact SlX.cmpback rz ⟨z', H', I', rz, qz⟩
  rcases hy with ⟨i, rfl⟩ | ⟨b, dy, gs, rfl, hb'⟩
  · obtain ⟨t, e⟩ := (show ∃ t, u = Value.int i t from ry)
    subst e
    obtain ⟨fo, i1⟩ := B.i1
    obtain ⟨ro, i2⟩ := B.i2
    exact PySem.W.ksp_binT (T := "int") hF I.ok.mod.kin J rfl B.first B.l B.fl B.r (.inr ⟨_, rfl⟩) i1 i2 B.s1 fin
  · cases (show u = Value.ref b from ry)
    obtain ⟨mB, J', _⟩ := ins_get I.hok hb'
    obtain ⟨od', J', _⟩ := J'.look
    exact PySem.W.binop_K hF I.ok.mod.kin J J'.type B.first B.l B.fl fin
/-- x op y, x an int, y an instance: the reflected def -/
def rBinR (C : Addr) (sp : Sp) (E : XK) : R2 := fun x y H Q => ∃ i b dy gs, x = .int i ∧ y = .ref b ∧ H b = some (.ins C dy gs) ∧ sp [y, x] H Q E
def DeclB (op : Operator) : Prop := ∀ {prog : Program} {w : World} {A : Around} {E : Value → Shared → Prop} {s : Shared} (i : Int) (t : Tok) (b C dy : Addr), s.heap.get? b = some (PySem.W.instObj C dy) → ∀ Q' : Option Value → Shared → Prop, Q' none s →
  wpAny (model prog w) A (tryMethod (.int i t) (PySem.dunder op.info.2) (.ref b)) Q' E s
theorem op_binR {op : Operator} (B : BinOps X.K C op g g2) (D : DeclB op) (F : FnOk X.prog X.w X.K X.mg X.base CX n g2 fd ps sp) (hb : Binds X.K fd ps []) (hr : Room n X.A) (hx : Passes CX X E) : OpR X (binaryOp op) (rBinR C sp E) := by
  intro pins s σ H x y v u Q I rx ry h
  obtain ⟨i, b, dy, gs, rfl, rfl, hb', q⟩ := h
  cases (show u = Value.ref b from ry)
  obtain ⟨t, e⟩ := (show ∃ t, v = Value.int i t from rx)
  subst e
  obtain ⟨mA, J, _⟩ := ins_get I.hok hb'
  have hobj := J.obj
  obtain ⟨od, J, _⟩ := J.look
  obtain ⟨fo, i1⟩ := B.i1
  obtain ⟨ro, i2⟩ := B.i2
  refine binR_K (T := "int") I.kIn J rfl B.first B.l B.r B.fr i1 i2 B.s2 (D i t b C dy hobj) ?_
  refine wpAny_mono (run_fn (vs := [.ref b, .int i]) (us := [.ref b, .int i t]) F hr hb .nil hx I (.cons rfl (.cons ⟨t, rfl⟩ .nil)) q) (fun w s' z => ?_) fun _ _ x => x
  obtain ⟨z', H', I', rz, qz⟩ := z
  exact SlX.cmpback rz ⟨z', H', I', rz, qz⟩
/-- either way -/
theorem op_both {f : Value → Value → Sem Value} {r1 r2 : R2} (h1 : OpR X f r1) (h2 : OpR X f r2) : OpR X f (fun x y H Q => r1 x y H Q ∨ r2 x y H Q) := fun pins s σ H x y v u Q I rx ry h => h.elim (h1 pins s σ H x y v u Q I rx ry) (h2 pins s σ H x y v u Q I rx ry)
end
section
theorem decM {prog : Program} {w : World} {A : Around} {E : Value → Shared → Prop} {s : Shared} {name : Str} {id : String} (S : Slot "int" name id) (i : Int) (t : Tok) (b : Addr) (Q' : Option Value → Shared → Prop)
    (z : wpAny (model prog w) A (call (.builtin id) [.int i t, .ref b]) (fun v s' => v = .notImplemented ∧ Q' none s') E s) : wpAny (model prog w) A (tryMethod (.int i t) name (.ref b)) Q' E s := by
  unfold tryMethod
  refine wpAny_bind (wpAny_callSpecial?_slot (typeIs_int s i t) S (wpAny_mono z (fun v s' h => ?_) fun _ _ e => e))
  obtain ⟨rfl, h⟩ := h
  exact wpAny_pure h
theorem declB_add : DeclB .Add := fun i t b C dy hb Q' hq => decM F.slot_int_add i t b Q' (call_meets F.slot_int_add (typeIs_int _ i t) F.entry_int_add (F.args_int_add_2 _ _) (dec_int_add i t b C dy) ⟨hb, rfl, hq⟩)
theorem declB_sub : DeclB .Sub := fun i t b C dy hb Q' hq => decM F.slot_int_sub i t b Q' (call_meets F.slot_int_sub (typeIs_int _ i t) F.entry_int_sub (F.args_int_sub_2 _ _) (dec_int_sub i t b C dy) ⟨hb, rfl, hq⟩)
theorem declB_mul : DeclB .Mult := fun i t b C dy hb Q' hq => decM F.slot_int_mul i t b Q' (call_meets F.slot_int_mul (typeIs_int _ i t) F.entry_int_mul (F.args_int_mul_2 _ _) (dec_int_mul i t b C dy) ⟨hb, rfl, hq⟩)
theorem declB_floordiv : DeclB .FloorDiv := fun i t b C dy hb Q' hq => decM F.slot_int_floordiv i t b Q' (call_meets F.slot_int_floordiv (typeIs_int _ i t) F.entry_int_floordiv (F.args_int_floordiv_2 _ _) (dec_int_floordiv i t b C dy) ⟨hb, rfl, hq⟩)
theorem declB_mod : DeclB .Mod := fun i t b C dy hb Q' hq => decM F.slot_int_mod i t b Q' (call_meets F.slot_int_mod (typeIs_int _ i t) F.entry_int_mod (F.args_int_mod_2 _ _) (dec_int_mod i t b C dy) ⟨hb, rfl, hq⟩)
end
section
open PySem
theorem dec_list_eq (l y C dy : Addr) (items : Array Value) (n : Nat) (dd : Option Addr) (sl : Array (Option Value)) :
    Meets (Builtin.«list.__eq__» ⟨[.ref l, .ref y], []⟩) (fun A R s => s.heap.get? l = some { cls := .type "list", dict := dd, data := .seq items n, slots := sl } ∧ s.heap.get? y = some (PySem.W.instObj C dy) ∧ (∀ M : Model, PySem.W.Looks M s.heap (PySem.isSubtype (.ref C) (.type "list")) false) ∧ R (.ok (.ret .notImplemented)) s) :=
  .of_wp fun prog w A R s h => by
    obtain ⟨hp, g, d, tk, os⟩ := s; obtain ⟨hl, hy, hs, h⟩ := h
    have L1 : PySem.W.Looks (model prog w) hp (PySem.isSubtype (.ref C) (.type "list")) false := hs _
    wp_walk using wpAny_loadPart' hl, wpAny_loadPart' hy, wpAny_load hl, wpAny_load hy, L1.here
    exact ⟨_, rfl, h⟩
theorem dec_tuple_eq (l y C dy : Addr) (items : Array Value) (n : Nat) (dd : Option Addr) (sl : Array (Option Value)) :
    Meets (Builtin.«tuple.__eq__» ⟨[.ref l, .ref y], []⟩) (fun A R s => s.heap.get? l = some { cls := .type "tuple", dict := dd, data := .seq items n, slots := sl } ∧ s.heap.get? y = some (PySem.W.instObj C dy) ∧ (∀ M : Model, PySem.W.Looks M s.heap (PySem.isSubtype (.ref C) (.type "tuple")) false) ∧ R (.ok (.ret .notImplemented)) s) :=
  .of_wp fun prog w A R s h => by
    obtain ⟨hp, g, d, tk, os⟩ := s; obtain ⟨hl, hy, hs, h⟩ := h
    have L1 : PySem.W.Looks (model prog w) hp (PySem.isSubtype (.ref C) (.type "tuple")) false := hs _
    wp_walk using wpAny_loadPart' hl, wpAny_loadPart' hy, wpAny_load hl, wpAny_load hy, L1.here
    exact ⟨_, rfl, h⟩
theorem dec_dict_eq (l y C dy : Addr) (o : Obj) (es : Array DictEntry) (n : Nat) :
    Meets (Builtin.«dict.__eq__» ⟨[.ref l, .ref y], []⟩) (fun A R s => s.heap.get? l = some o ∧ o.cls = .type "dict" ∧ o.data = .dict es n ∧ s.heap.get? y = some (PySem.W.instObj C dy) ∧ (∀ M : Model, PySem.W.Looks M s.heap (PySem.isSubtype (.ref C) (.type "dict")) false) ∧ R (.ok (.ret .notImplemented)) s) :=
  .of_wp fun prog w A R s h => by
    obtain ⟨hp, g, d, tk, os⟩ := s; obtain ⟨hl, hc, hd, hy, hs, h⟩ := h
    have L1 : PySem.W.Looks (model prog w) hp (PySem.isSubtype (.ref C) (.type "dict")) false := hs _
    wp_walk using wpAny_loadPart' hl, wpAny_loadPart' hy, wpAny_load hl, wpAny_load hy, L1.here
    exact ⟨_, rfl, h⟩
end
section
variable {X : Cx} {C : Addr}
/-- the values that are no numbers -/
def IsOth (x : V) (H : Hp) : Prop := x = .non ∨ (∃ b, x = .bl b) ∨ (∃ z, x = .str z) ∨ (∃ a xs, x = .ref a ∧ H a = some (.lst xs)) ∨ (∃ a xs, x = .ref a ∧ H a = some (.tup xs)) ∨ (∃ a kvs, x = .ref a ∧ H a = some (.dK kvs))
/-- the class at C is below none of these -/
structure NoSub (K : PySem.W.Frag) (C : Addr) : Prop where
  non : PySem.W.subIn K (.ref C) (.type "NoneType") = some false
  bool : PySem.W.subIn K (.ref C) (.type "bool") = some false
  str : PySem.W.subIn K (.ref C) (.type "str") = some false
  list : PySem.W.subIn K (.ref C) (.type "list") = some false
  tuple : PySem.W.subIn K (.ref C) (.type "tuple") = some false
  dict : PySem.W.subIn K (.ref C) (.type "dict") = some false
  int : PySem.W.subIn K (.ref C) (.type "int") = some false
theorem declines_oth_eq (N : NoSub X.K C) : Declines X C .Eq IsOth := by
  rintro pins s σ H x u b dy I rx hx hb
  rcases hx with rfl | ⟨k, rfl⟩ | ⟨z, rfl⟩ | ⟨a, xs, rfl, ea⟩ | ⟨a, xs, rfl, ea⟩ | ⟨a, kvs, rfl, ea⟩
  · cases (show u = Value.none from rx)
    exact ⟨"NoneType", rfl, N.non, fun E Q' hq => wpAny_tryCompare_declines rfl F.slot_NoneType_eq (call_meets F.slot_NoneType_eq rfl F.entry_NoneType_eq (F.args_NoneType_eq_2 _ _) (dec_none_eq b C dy) ⟨hb, ⟨rfl, hq⟩⟩)⟩
  · cases (show u = Value.bool k from rx)
    exact ⟨"bool", rfl, N.bool, fun E Q' hq => wpAny_tryCompare_declines rfl F.slot_bool_eq (call_meets F.slot_bool_eq rfl F.entry_int_eq (F.args_int_eq_2 _ _) (dec_bool_eq k b C dy) ⟨hb, ⟨rfl, hq⟩⟩)⟩
  · obtain ⟨t, e⟩ := (show ∃ t, u = Value.str z t from rx)
    subst e
    exact ⟨"str", rfl, N.str, fun E Q' hq => wpAny_tryCompare_declines rfl F.slot_str_eq (call_meets F.slot_str_eq rfl F.entry_str_eq (F.args_str_eq_2 _ _) (dec_str_eq z t b C dy) ⟨hb, ⟨rfl, hq⟩⟩)⟩
  · cases (show u = Value.ref a from rx)
    obtain ⟨_, _, n, _, h1⟩ := (show ObjOk X.prog X.w H s.heap a (.lst xs) from I.hok a _ ea)
    have ht : s.TypeIs (.ref a) "list" := ⟨_, h1, rfl⟩
    exact ⟨"list", ht, N.list, fun E Q' hq => wpAny_tryCompare_declines ht F.slot_list_eq (call_meets F.slot_list_eq ht F.entry_list_eq (F.args_list_eq_2 _ _) (dec_list_eq a b C dy _ _ _ _) ⟨h1, hb, fun M => PySem.W.looks_subIn I.kIn N.list, ⟨rfl, hq⟩⟩)⟩
  · cases (show u = Value.ref a from rx)
    obtain ⟨_, _, _, o, h1, h2, n, h3⟩ := (show ObjOk X.prog X.w H s.heap a (.tup xs) from I.hok a _ ea)
    obtain ⟨oc, od, dt, sl⟩ := o
    have ht : s.TypeIs (.ref a) "tuple" := ⟨_, h1, h2⟩
    cases h2
    cases h3
    exact ⟨"tuple", ht, N.tuple, fun E Q' hq => wpAny_tryCompare_declines ht F.slot_tuple_eq (call_meets F.slot_tuple_eq ht F.entry_tuple_eq (F.args_tuple_eq_2 _ _) (dec_tuple_eq a b C dy _ _ _ _) ⟨h1, hb, fun M => PySem.W.looks_subIn I.kIn N.tuple, ⟨rfl, hq⟩⟩)⟩
  · cases (show u = Value.ref a from rx)
    obtain ⟨_, _, vs, _, o, es, ep, h1, h2, h3⟩ := (show ObjOk X.prog X.w H s.heap a (.dK kvs) from I.hok a _ ea)
    have ht : s.TypeIs (.ref a) "dict" := ⟨o, h1, h2.1⟩
    exact ⟨"dict", ht, N.dict, fun E Q' hq => wpAny_tryCompare_declines ht F.slot_dict_eq (call_meets F.slot_dict_eq ht F.entry_dict_eq (F.args_dict_eq_2 _ _) (dec_dict_eq a b C dy o es ep) ⟨h1, h2.1, (by first | exact h3 | exact h3.1), hb, fun M => PySem.W.looks_subIn I.kIn N.dict, ⟨rfl, hq⟩⟩)⟩
end
open PySem.W in
theorem neR_K {prog : Program} {w : World} {A : Around} {E : Value → Shared → Prop} {s : Shared} {K : Frag} {y C f : Addr} {oy : Obj} {od : Option Obj} {a : Value} {T : String} {Q : Value → Shared → Prop} (hu : A.units + 1 < cLine) (ha : s.TypeIs a T) (X : K.In s.heap) (I : InstAt s.heap y oy C od)
    (hsub : subIn K (.ref C) (.type T) = some false) (hd : ∀ Q' : Option Value → Shared → Prop, Q' none s → wpAny (model prog w) A (tryCompare a "__ne__" (.ref y)) Q' E s)
    (hne : findIn K (.ref C) "__ne__" = some (some (.builtin "object.__ne__"))) (hob : subIn K (.ref C) (.type "object") = some true) (hs : findIn K (.ref C) "__eq__" = some (some (.ref f))) (hf : isFn K (.ref f) = true)
    (h : wpAny (model prog w) A.in1 (call (.ref f) [.ref y, a]) (fun v s' => ∃ k, v = .bool k ∧ Q (.bool (!k)) s') E s) : wpAny (model prog w) A (richCompare .NotEq a (.ref y)) Q E s := by
  have one : wpAny (model prog w) A (tryCompare (.ref y) "__ne__" a) (fun r s' => ∃ v, r = some v ∧ Q v s') E s := by
    unfold tryCompare
    refine wpAny_bind (ifBound_ne X I hne (wpAny_call (codeAny_call_builtin F.cmp_object.ne.plain F.cmpEntry_ne (check_ne X I hob (ne_entry (A := A.in1) X I hs hf hu (wpAny_mono h (fun v s' hv => ?_) fun _ _ e => e))))))
    obtain ⟨k, rfl, hq⟩ := hv
    exact ⟨k, rfl, wpAny_pure ⟨_, rfl, hq⟩⟩
  unfold richCompare
  simp only [ha.oneThing_none, cmpInfo_NotEq]
  refine wpAny_holding (wpAny_bind (wpAny_cRoomFor (Nat.lt_of_succ_lt hu) ?_))
  refine wpAny_bind (wpAny_typeOf ha (wpAny_bind (I.type.here ?_)))
  have hne2 : (Value.type T != Value.ref C) = true := rfl
  simp only [hne2, if_true]
  refine wpAny_bind ((looks_subIn X hsub).here ?_)
  simp only [Bool.false_eq_true, if_false, Bool.not_false, if_true]
  refine wpAny_bind (hd _ ?_)
  dsimp only
  refine wpAny_bind (wpAny_mono one (fun r s' z => ?_) fun _ _ e => e)
  obtain ⟨v, rfl, hq⟩ := z
  exact wpAny_pure hq
section
variable {X : Cx} {CX : CXT} {g C : Addr} {n : Nat} {sp : Sp} {E : XK} {fd : FuncData} {ps : List Str}
def rNeR (C : Addr) (P : V → Hp → Prop) (sp : Sp) (E : XK) : R2 := fun x y H Q => ∃ b dy fs, y = .ref b ∧ H b = some (.ins C dy fs) ∧ P x H ∧ sp [y, x] H (fun v H' => ∃ k, v = .bl k ∧ Q (.bl (!k)) H') E
theorem op_neR {P : V → Hp → Prop} (hd : Declines X C .NotEq P) (hne : PySem.W.findIn X.K (.ref C) "__ne__" = some (some (.builtin "object.__ne__"))) (hob : PySem.W.subIn X.K (.ref C) (.type "object") = some true)
    (hs : PySem.W.findIn X.K (.ref C) "__eq__" = some (some (.ref g))) (hf : PySem.W.isFn X.K (.ref g) = true)
    (F : FnOk X.prog X.w X.K X.mg X.base CX n g fd ps sp) (hb : Binds X.K fd ps []) (hr : Room (n + 1) X.A) (hx : Passes CX X E) : OpR X (compareOp .NotEq) (rNeR C P sp E) := by
  intro pins s σ H x y v u Q I rx ry h
  obtain ⟨b, dy, fs, rfl, hb', hp, q⟩ := h
  cases (show u = Value.ref b from ry)
  obtain ⟨mA, J, _⟩ := ins_get I.hok hb'
  have hobj := J.obj
  obtain ⟨od, J, _⟩ := J.look
  obtain ⟨T, ht, hsub, hdec⟩ := hd pins s σ H x v b dy I rx hp hobj
  refine neR_K (hu_of hr) ht I.kIn J hsub (hdec _) hne hob hs hf ?_
  refine wpAny_mono (run_below (A := X.A.in1) (vs := [.ref b, x]) (us := [.ref b, v]) F (L2.Sub.in1 ⟨hr, rfl⟩) hb hx I (.cons rfl (.cons rx .nil)) q) (fun w s' z => ?_) fun _ _ x => x
  obtain ⟨z', H', I', rz, k, rfl, qz⟩ := z
  cases (show w = Value.bool k from rz)
  exact ⟨k, rfl, .bl (!k), H', I', rfl, qz⟩
end
end Lt

set_option Elab.async false
set_option linter.all false
set_option maxRecDepth 100000
set_option maxHeartbeats 2000000
namespace Lt
open PySem PySem.Spec PyProof.Rows L2
/-- a def that is never called -/
theorem fnok_false {P : Program} {w : World} {K : PySem.W.Frag} {mg : Str → Option Value} {base : Heap} {CX : CXT} {k : Nat} {f : Addr} {fd : FuncData} {ps : List Str} : FnOk P w K mg base CX k f fd ps (fun _ _ _ _ => False) :=
  ⟨fun _ _ _ _ h => h.elim, fun _ _ _ _ _ _ _ _ _ _ _ _ _ h => h.elim⟩
namespace Rd
variable {K : PySem.W.Frag} {D : Ends} {σ : L2.St} {H H0 : Hp} {Q : VK} {S : List Addr} {l l' : Led} {te ta : TE} {x y v c : V} {t u : Value} {b : Bool}
/-! ### comprehensions -/
def Lc (J : It) (g : TG) (tt : TT) (te : TE) (vs : List Nat) (σ : L2.St) (H1 : Hp) (Q : VK) : Prop := ∀ D, H1 D = none → ∃ W : Nat → Nat → Hp → Prop, (∃ m, W 0 m (upd H1 D (.lst []))) ∧ ∀ i m H, W i m H →
  (J.stop i H ∧ Q (.ref D) H) ∨ (J.go i H ∧ ∃ Nx : Hp → Prop, (∀ H', Nx H' → ∃ m', m' < m ∧ W (i + 1) m' H') ∧ ∀ x H', J.yld i H x H' → g x (wipe σ vs) H' fun σ2 H2 => wipe σ2 vs = wipe σ vs ∧ tt σ2 H2 fun b H3 =>
    if b = true then te σ2 H3 fun y H4 => ∃ acc, H4 D = some (.lst acc) ∧ acc.length < sizeLine ∧ Nx (upd H4 D (.lst (acc ++ [y]))) else Nx H3)
theorem lc {wi : TI} {g : TG} {tt : TT} {te : TE} {vs : List Nat} (h : wi σ H fun J H1 => Lc J g tt te vs σ H1 Q) : tLc wi g tt te vs σ H Q := h
/-- between two turns: the list at D holds acc; further objects ex -/
def PvG (H0 : Hp) (S : List Addr) (l : Led) (Good : Nat → List V → Led → Prop) (D : Addr) (i : Nat) (H : Hp) : Prop := ∃ acc ex, Good i acc ex ∧ acc.length ≤ i ∧ Stt H0 S ((D, Is (.lst acc)) :: (ex ++ l)) H
def LcP (H0 : Hp) (S : List Addr) (l : Led) (Good : Nat → List V → Led → Prop) (D : Addr) (i : Nat) (y : V) (H4 : Hp) : Prop := ∃ acc, H4 D = some (.lst acc) ∧ acc.length < sizeLine ∧ PvG H0 S l Good D (i + 1) (upd H4 D (.lst (acc ++ [y])))
theorem lcE {Good : Nat → List V → Led → Prop} {D : Addr} {i : Nat} {acc : List V} {ex : Led} (st : Stt H0 S ((D, Is (.lst acc)) :: (ex ++ l)) H) (hD : H0 D = none) (hi : i < 100000) (ha : acc.length ≤ i) (g : Good (i + 1) (acc ++ [y]) ex) : LcP H0 S l Good D i y H :=
  ⟨acc, st.get List.mem_cons_self, Nat.lt_of_le_of_lt ha (Nat.lt_trans hi (by decide)), acc ++ [y], ex, g, by simp; omega, st.set .head (.inr hD)⟩
theorem lcG {J : It} {n : Nat} {G : Hp → Prop} {Y : Nat → Hp → V → Hp → Prop} (w : Walk J n G Y) {g : TG} {tt : TT} {te : TE} {vs : List Nat} (st : Stt H0 S l H) (Good : Nat → List V → Led → Prop) (g0 : Good 0 [] [])
    (hG : ∀ H' D acc ex, H0 D = none → Stt H0 S ((D, Is (.lst acc)) :: (ex ++ l)) H' → G H')
    (hs : ∀ D, H0 D = none → ∀ i x H1 H2 acc ex, i < n → Good i acc ex → acc.length ≤ i → Stt H0 S ((D, Is (.lst acc)) :: (ex ++ l)) H1 → Y i H1 x H2 → g x (wipe σ vs) H2 fun σ2 H2 => wipe σ2 vs = wipe σ vs ∧ tt σ2 H2 fun b H3 =>
      Br b (te σ2 H3 fun y H4 => LcP H0 S l Good D i y H4) (PvG H0 S l Good D (i + 1) H3))
    (hd : ∀ D H1 acc ex, H0 D = none → Good n acc ex → Stt H0 S ((D, Is (.lst acc)) :: (ex ++ l)) H1 → Q (.ref D) H1) : Lc J g tt te vs σ H Q := by
  intro D hD
  have hD0 := st.none hD
  refine lc_it w (PvG H0 S l Good D) ⟨[], [], g0, Nat.le_refl _, st.new hD _⟩ (fun i H' _ p => ?_) ?_ ?_
  · obtain ⟨acc, ex, _, _, q⟩ := p
    exact hG H' D acc ex hD0 q
  · rintro i x H1 H2 hi ⟨acc, ex, gd, ha, q⟩ y
    exact hs D hD0 i x H1 H2 acc ex hi gd ha q y
  · rintro H1 ⟨acc, ex, gd, _, q⟩
    exact hd D H1 acc ex hD0 gd q
def WZ (K : PySem.W.Frag) (vs : List V) (H1 : Hp) (R : It → Hp → Prop) : Prop := ∃ a b xs ys, vs = [.ref a, .ref b] ∧ ((SqL K H1 a xs ∧ SqL K H1 b ys ∧ R (Itz K a b) H1) ∨ (SqT K H1 a xs ∧ SqT K H1 b ys ∧ R (RZ.ItzT K a b) H1))
theorem wZ {ta : TA} {R : It → Hp → Prop} (h : ta σ H fun vs H1 => WZ K vs H1 R) : RZ.iZipA K ta σ H R := h
def tYesH {Q : Bool → Hp → Prop} (h : Q true H) : tYes σ H Q := h
def rAllQ (K : PySem.W.Frag) : List V → Hp → VK → Prop := fun vs H Q => ∃ (a : Addr) (bs : List Bool), vs = [V.ref a] ∧ SqL K H a (bs.map V.bl) ∧ Q (.bl (bs.all id)) H
theorem allL {p : Addr} {bs : List Bool} (st : Stt H0 S l H) (m : (p, Is (.lst (bs.map V.bl))) ∈ l) (h : Q (.bl (bs.all id)) H) : rAll K [.ref p] H Q := ⟨p, bs, rfl, st.sqL m, h⟩
theorem anyL {p : Addr} {bs : List Bool} (st : Stt H0 S l H) (m : (p, Is (.lst (bs.map V.bl))) ∈ l) (h : Q (.bl (bs.any id)) H) : rAny K [.ref p] H Q := ⟨p, bs, rfl, st.sqL m, h⟩
/-! ### texts -/
def rStrQ : List V → Hp → VK → Prop := fun xs H Q => ∃ i, xs = [.int i] ∧ i.natAbs.log2 < 1920 ∧ Q (.str (toString i)) H
theorem strI {i : Int} (hz : i.natAbs.log2 < 1920) (h : Q (.str (toString i)) H) : rStrQ [.int i] H Q := ⟨i, rfl, hz, h⟩
def Js (ts : List TE) (acc : Str) (σ : L2.St) (H : Hp) (Q : VK) : Prop := tJs ts acc σ H fun out H1 => Q (.str out) H1
def JsL (ts : List TE) (acc : Str) (σ : L2.St) (x : V) (H1 : Hp) (Q : VK) : Prop := ∃ y : Str, x = .str y ∧ (acc ++ y).length ≤ sizeLine ∧ tJs ts (acc ++ y) σ H1 fun out H1 => Q (.str out) H1
theorem joined {ts : List TE} (h : Js ts Str.empty σ H Q) : (fun (σ : L2.St) (H : Hp) (Q : VK) => tJs ts Str.empty σ H fun out H1 => Q (.str out) H1) σ H Q := h
theorem jsNil {acc : Str} (h : Q (.str acc) H) : Js [] acc σ H Q := h
theorem jsCons {t : TE} {ts : List TE} {acc : Str} (h : t σ H fun x H1 => JsL ts acc σ x H1 Q) : Js (t :: ts) acc σ H Q := h
theorem jsL {ts : List TE} {acc y : Str} (hz : (acc ++ y).length ≤ sizeLine) (h : Js ts (acc ++ y) σ H Q) : JsL ts acc σ (.str y) H Q := ⟨y, rfl, hz, h⟩
def FmtL (x : V) (H1 : Hp) (Q : VK) : Prop := (∃ y : Str, x = .str y ∧ y.length ≤ sizeLine ∧ Q (.str y) H1) ∨ ∃ i : Int, x = .int i ∧ i.natAbs.log2 < 1920 ∧ Q (.str (toString i)) H1
theorem fmt (h : te σ H fun x H1 => FmtL x H1 Q) : tFmt te σ H Q := h
theorem fmtI {i : Int} (hz : i.natAbs.log2 < 1920) (h : Q (.str (toString i)) H) : FmtL (.int i) H Q := .inr ⟨i, rfl, hz, h⟩
theorem fmtS {y : Str} (hz : y.length ≤ sizeLine) (h : Q (.str y) H) : FmtL (.str y) H Q := .inl ⟨y, rfl, hz, h⟩
/-- == of two written data -/
theorem eqD {d e : PyData} (h1 : Dp K H x d) (h2 : Dp K H y e) (s1 : SeqAt.shaped d = true) (s2 : SeqAt.shaped e = true) (h : Q (.bl (PyData.eqv d e)) H) : rEqD K x y H Q := ⟨d, e, h1, h2, s1, s2, h⟩
end Rd
theorem call_strQ {X : Cx} : CallR X (.type "str") Rd.rStrQ := call_str_int
theorem walk_zipT {K : PySem.W.Frag} {a b : Addr} {xs ys : List V} {n : Nat} (hn : n = min xs.length ys.length) : Walk (RZ.ItzT K a b) n (fun H => SqT K H a xs ∧ SqT K H b ys) (YPair (fun i => xs[i]?) (fun i => ys[i]?)) := by
  subst hn
  refine ⟨fun i _ hi q => ?_, fun _ q => ⟨xs, ys, q.1, q.2, by omega⟩, fun i H v H' _ q y => ?_⟩
  · have h1 : i < xs.length := by omega
    have h2 : i < ys.length := by omega
    exact ⟨xs, ys, xs[i], ys[i], q.1, q.2, by simp [h1], by simp [h2]⟩
  · obtain ⟨T, x, z, h1, h2, h3, h4, h5⟩ := y
    exact ⟨T, x, z, h1, h2, h3, h4 xs q.1, h5 ys q.2⟩
theorem Kp.seqT {S : List Addr} {K : PySem.W.Frag} {H H' : Hp} {l : Addr} {xs : List V} (a : Kp S H H') (hl : l ∉ S) (h : SqT K H l xs) : SqT K H' l xs := by
  rcases h with (h | ⟨o, h⟩) | h
  · exact .inl (.inl (a.get hl h))
  · exact .inl (.inr ⟨o, a.get hl h⟩)
  · exact .inr h
mutual
theorem dp_kp {K : PySem.W.Frag} {H H' : Hp} (k : Kp [] H H') : ∀ {v : V} {d : PyData}, Dp K H v d → Dp K H' v d
  | _, _, .non => .non
  | _, _, .bl b => .bl b
  | _, _, .int i => .int i
  | _, _, .str x => .str x
  | _, _, .lst h r => .lst (k.seqL (by simp) h) (dpAll_kp k r)
  | _, _, .tup h r => .tup (k.seqT (by simp) h) (dpAll_kp k r)
theorem dpAll_kp {K : PySem.W.Frag} {H H' : Hp} (k : Kp [] H H') : ∀ {vs : List V} {ds : List PyData}, DpAll K H vs ds → DpAll K H' vs ds
  | _, _, .nil => .nil
  | _, _, .cons a r => .cons (dp_kp k a) (dpAll_kp k r)
end
theorem depth_mem {d : PyData} : ∀ {ds : List PyData} {i : Nat}, ds[i]? = some d → d.depth ≤ PyData.depthAll ds
  | e :: r, 0, h => by
    simp at h
    subst h
    exact Nat.le_max_left _ _
  | e :: r, i + 1, h => by
    simp at h
    exact Nat.le_trans (depth_mem h) (Nat.le_max_right _ _)
theorem weight_mem {d : PyData} : ∀ {ds : List PyData} {i : Nat}, ds[i]? = some d → d.weight ≤ PyData.weightAll ds
  | e :: r, 0, h => by
    simp at h
    subst h
    show e.weight ≤ e.weight + 1 + PyData.weightAll r
    omega
  | e :: r, i + 1, h => by
    simp at h
    have := weight_mem h
    show d.weight ≤ e.weight + 1 + PyData.weightAll r
    omega
theorem weight_len : ∀ (ds : List PyData), ds.length ≤ PyData.weightAll ds
  | [] => Nat.le_refl _
  | e :: r => by
    have := weight_len r
    show r.length + 1 ≤ e.weight + 1 + PyData.weightAll r
    omega
theorem DpAll.len {K : PySem.W.Frag} {H : Hp} : ∀ {vs : List V} {ds : List PyData}, DpAll K H vs ds → vs.length = ds.length
  | _, _, .nil => rfl
  | _, _, .cons _ r => congrArg Nat.succ (DpAll.len r)
theorem DpAll.at {K : PySem.W.Frag} {H : Hp} : ∀ {vs : List V} {ds : List PyData} {i : Nat} {v : V}, DpAll K H vs ds → vs[i]? = some v → ∃ d, ds[i]? = some d ∧ Dp K H v d
  | _, _, 0, _, .cons a r, h => by
    simp at h
    subst h
    exact ⟨_, rfl, a⟩
  | _, _, i + 1, _, .cons a r, h => by
    simp at h
    obtain ⟨d, h1, h2⟩ := DpAll.at r h
    exact ⟨d, by simpa using h1, h2⟩
section
variable {K : PySem.W.Frag}
theorem kitA_lt_int : PySem.W.kitAny K (.type "int") [.type "list", .type "tuple"] = some false := kitAny_cons kit_int_list (fun _ => kitAny_cons kit_int_tuple (fun _ => kitAny_nil) (fun h => by cases h)) (fun h => by cases h)
theorem kitA_bilt_int : PySem.W.kitAny K (.type "int") [.type "bool", .type "int", .type "list", .type "tuple"] = some true := by
  refine kitAny_cons kit_int_bool ?_ ?_ <;> intro h <;> first | (cases h; done) | rfl | (refine kitAny_cons kit_int_int ?_ ?_ <;> intro h <;> first | (cases h; done) | rfl | exact kitA_lt_int)
theorem kitA_lt_bool : PySem.W.kitAny K (.type "bool") [.type "list", .type "tuple"] = some false := kitAny_cons kit_bool_list (fun _ => kitAny_cons kit_bool_tuple (fun _ => kitAny_nil) (fun h => by cases h)) (fun h => by cases h)
theorem kitA_bilt_bool : PySem.W.kitAny K (.type "bool") [.type "bool", .type "int", .type "list", .type "tuple"] = some true := by
  refine kitAny_cons kit_bool_bool ?_ ?_ <;> intro h <;> first | (cases h; done) | rfl | (refine kitAny_cons kit_bool_int ?_ ?_ <;> intro h <;> first | (cases h; done) | rfl | exact kitA_lt_bool)
theorem kitA_lt_str : PySem.W.kitAny K (.type "str") [.type "list", .type "tuple"] = some false := kitAny_cons kit_str_list (fun _ => kitAny_cons kit_str_tuple (fun _ => kitAny_nil) (fun h => by cases h)) (fun h => by cases h)
theorem kitA_bilt_str : PySem.W.kitAny K (.type "str") [.type "bool", .type "int", .type "list", .type "tuple"] = some false := by
  refine kitAny_cons kit_str_bool ?_ ?_ <;> intro h <;> first | (cases h; done) | rfl | (refine kitAny_cons kit_str_int ?_ ?_ <;> intro h <;> first | (cases h; done) | rfl | exact kitA_lt_str)
theorem kitA_lt_list : PySem.W.kitAny K (.type "list") [.type "list", .type "tuple"] = some true := kitAny_cons kit_list_list (fun h => by cases h) (fun _ => rfl)
theorem kitA_bilt_list : PySem.W.kitAny K (.type "list") [.type "bool", .type "int", .type "list", .type "tuple"] = some true := by
  refine kitAny_cons kit_list_bool ?_ ?_ <;> intro h <;> first | (cases h; done) | rfl | (refine kitAny_cons kit_list_int ?_ ?_ <;> intro h <;> first | (cases h; done) | rfl | exact kitA_lt_list)
theorem kitA_lt_tuple : PySem.W.kitAny K (.type "tuple") [.type "list", .type "tuple"] = some true := kitAny_cons kit_tuple_list (fun _ => kitAny_cons kit_tuple_tuple (fun h => by cases h) (fun _ => rfl)) (fun h => by cases h)
theorem kitA_bilt_tuple : PySem.W.kitAny K (.type "tuple") [.type "bool", .type "int", .type "list", .type "tuple"] = some true := by
  refine kitAny_cons kit_tuple_bool ?_ ?_ <;> intro h <;> first | (cases h; done) | rfl | (refine kitAny_cons kit_tuple_int ?_ ?_ <;> intro h <;> first | (cases h; done) | rfl | exact kitA_lt_tuple)
theorem kitA_lt_dict : PySem.W.kitAny K (.type "dict") [.type "list", .type "tuple"] = some false := kitAny_cons kit_dict_list (fun _ => kitAny_cons kit_dict_tuple (fun _ => kitAny_nil) (fun h => by cases h)) (fun h => by cases h)
theorem kitA_bilt_dict : PySem.W.kitAny K (.type "dict") [.type "bool", .type "int", .type "list", .type "tuple"] = some false := by
  refine kitAny_cons kit_dict_bool ?_ ?_ <;> intro h <;> first | (cases h; done) | rfl | (refine kitAny_cons kit_dict_int ?_ ?_ <;> intro h <;> first | (cases h; done) | rfl | exact kitA_lt_dict)
theorem kitA_lt_NoneType : PySem.W.kitAny K (.type "NoneType") [.type "list", .type "tuple"] = some false := kitAny_cons kit_NoneType_list (fun _ => kitAny_cons kit_NoneType_tuple (fun _ => kitAny_nil) (fun h => by cases h)) (fun h => by cases h)
theorem kitA_bilt_NoneType : PySem.W.kitAny K (.type "NoneType") [.type "bool", .type "int", .type "list", .type "tuple"] = some false := by
  refine kitAny_cons kit_NoneType_bool ?_ ?_ <;> intro h <;> first | (cases h; done) | rfl | (refine kitAny_cons kit_NoneType_int ?_ ?_ <;> intro h <;> first | (cases h; done) | rfl | exact kitA_lt_NoneType)
end
theorem sqL_ty {K : PySem.W.Frag} {H : Hp} {a : Addr} {xs : List V} (h : SqL K H a xs) : TyX K H (.ref a) (.type "list") := by
  rcases h with (h | ⟨o, h⟩) | ⟨o, its, n, h1, h2, _⟩
  · exact .base (.lst h)
  · exact .base (.frz h)
  · exact .kList h1 h2
theorem sqT_ty {K : PySem.W.Frag} {H : Hp} {a : Addr} {xs : List V} (h : SqT K H a xs) : TyX K H (.ref a) (.type "tuple") := by
  rcases h with (h | ⟨o, h⟩) | ⟨o, its, n, h1, h2, _⟩
  · exact .base (.tup h)
  · exact .fTuple h
  · exact .kTuple h1 h2
theorem Stt.upL {K : PySem.W.Frag} {H0 H : Hp} {S : List Addr} {l : Led} {a : Addr} {xs : List V} (s : Stt H0 S l H) (h : SqL K H0 a xs) (n : a ∉ S := by exact List.not_mem_nil) : SqL K H a xs := s.keep.seqL n h
theorem Stt.upT {K : PySem.W.Frag} {H0 H : Hp} {S : List Addr} {l : Led} {a : Addr} {xs : List V} (s : Stt H0 S l H) (h : SqT K H0 a xs) (n : a ∉ S := by exact List.not_mem_nil) : SqT K H a xs := s.keep.seqT n h
namespace Rd
variable {K : PySem.W.Frag} {H H0 : Hp} {Q : VK} {l : Led}
theorem wp {a c : L2.St} {b d : List Nat} {G : Prop} (e : wipe a b = wipe c d) (h : G) : wipe a b = wipe c d ∧ G := ⟨e, h⟩
theorem makeK {σ : L2.St} {C : Addr} {n m : Nat} {sp : Sp} {gV : List V → List V → List V} {E : XK} {t tk : TA} (h : t σ H fun vs H1 => tk σ H1 fun zs H2 => MakeN C n m sp gV E vs zs H2 Q) : tMakeK C n m sp gV E t tk σ H Q := h
def DNew (H : Hp) (Q : VK) : Prop := ∀ d, H d = none → Q (.ref d) (upd H d (.dK []))
theorem dnew {σ : L2.St} (h : DNew H Q) : tDNewK σ H Q := h
theorem dnewL {S : List Addr} (st : Stt H0 S l H) (k : ∀ p H1, H0 p = none → Stt H0 S ((p, Is (.dK [])) :: l) H1 → Q (.ref p) H1) : DNew H Q := fun p hp => k p _ (st.none hp) (st.new hp _)
def MethL (C : Addr) (m : Str) (sp : Sp) (dvs : List V) (E : XK) (t : TA) (σ : L2.St) (x : V) (H1 : Hp) (Q : VK) : Prop := ∃ a dx fs, x = .ref a ∧ H1 a = some (.ins C dx fs) ∧ fs.lookup m = none ∧
  t σ H1 fun vs H2 => sp (x :: (vs ++ dvs)) H2 Q E
theorem meth {σ : L2.St} {C : Addr} {m : Str} {sp : Sp} {dvs : List V} {E : XK} {ta : TE} {t : TA} (h : ta σ H fun x H1 => MethL C m sp dvs E t σ x H1 Q) : tMeth C m sp dvs E ta t σ H Q := h
def Cat (x y : V) (H1 : Hp) (Q : VK) : Prop := rCat x y H1 Q
theorem catL {S : List Addr} {p q : Addr} {xs zs : List V} (st : Stt H0 S l H) (m1 : (p, Is (.lst xs)) ∈ l) (m2 : (q, Is (.lst zs)) ∈ l) (hz : xs.length + zs.length ≤ 100000) (k : ∀ r H1, H0 r = none → Stt H0 S ((r, Is (.lst (xs ++ zs))) :: l) H1 → Q (.ref r) H1) : rCat (.ref p) (.ref q) H Q :=
  ⟨p, q, xs, zs, rfl, rfl, st.get m1, st.get m2, Nat.le_trans hz (by decide), fun r hr => k r _ (st.none hr) (st.new hr _)⟩
theorem isB {a b : Bool} (h : Q (.bl (decide (a = b))) H) : rIsB (.bl a) (.bl b) H Q := ⟨a, b, rfl, rfl, h⟩
theorem zL {a b : Addr} {xs ys : List V} {R : It → Hp → Prop} (h1 : SqL K H a xs) (h2 : SqL K H b ys) (h : R (Itz K a b) H) : WZ K [.ref a, .ref b] H R := ⟨a, b, xs, ys, rfl, .inl ⟨h1, h2, h⟩⟩
theorem zT {a b : Addr} {xs ys : List V} {R : It → Hp → Prop} (h1 : SqT K H a xs) (h2 : SqT K H b ys) (h : R (RZ.ItzT K a b) H) : WZ K [.ref a, .ref b] H R := ⟨a, b, xs, ys, rfl, .inr ⟨h1, h2, h⟩⟩
theorem lenBL {S : List Addr} {p : Addr} {xs : List V} (st : Stt H0 S l H) (s : SqL K H0 p xs) (n : p ∉ S) (h : Q (.int (xs.length : Int)) H) : rLenQ K [.ref p] H Q := ⟨p, xs, rfl, .inl (st.upL s n), h⟩
theorem lenBT {S : List Addr} {p : Addr} {xs : List V} (st : Stt H0 S l H) (s : SqT K H0 p xs) (n : p ∉ S) (h : Q (.int (xs.length : Int)) H) : rLenQ K [.ref p] H Q := ⟨p, xs, rfl, .inr (st.upT s n), h⟩
theorem ixBL {S : List Addr} {p : Addr} {xs : List V} {z : Int} {v : V} (st : Stt H0 S l H) (s : SqL K H0 p xs) (n : p ∉ S) (e : atI xs z = some v) (h : Q v H) : rIxL K (.ref p) (.int z) H Q := ⟨p, xs, z, v, rfl, rfl, st.upL s n, e, h⟩
theorem ixBT {S : List Addr} {p : Addr} {xs : List V} {z : Int} {v : V} (st : Stt H0 S l H) (s : SqT K H0 p xs) (n : p ∉ S) (e : atI xs z = some v) (h : Q v H) : rIxT K (.ref p) (.int z) H Q := ⟨p, xs, z, v, rfl, rfl, st.upT s n, e, h⟩
end Rd
section
variable {X : Cx} {CX : CXT} {k : Nat} {f C : Addr} {fd : FuncData} {ps ks : List Str} {sp : Sp} {E : XK} {x : Str} {p pos : Pos} {kws : List Keyword} {tk : TA} {gV : List V → List V → List V}
theorem pe_makeK0X (M : Mk X.K C f) (F : FnOk X.prog X.w X.K X.mg X.base CX k f fd ps sp) (hr : Room (k + 1) X.A) (hg : Gl X x) (hm : X.mg x = some (.ref C)) (hb : ∃ g, KBn X.K fd ps 1 ks g gV) (hx : Passes CX X E)
    (hkw : PK X kws tk) (hall : (backToKw pos (keywordEach kws X.env)).all (·.1.isSome) = true := by rfl) (hks : (backToKw pos (keywordEach kws X.env)).filterMap (·.1) = ks := by rfl)
    (hdb : (x == ("__debug__" : Str)) = false := by decide) (hpl : ((backTo pos (starEach [] X.env)).any (·.1) || (backToKw pos (keywordEach kws X.env)).any (·.1.isNone)) = false := by rfl) :
    PE X (.Call (.Name x p) [] kws pos) (tMakeK C 0 ks.length sp gV E tNil tk) := by
  obtain ⟨g, hb⟩ := hb
  exact pe_makeK0 M F hr hg hm hb hx hkw hall hks hdb hpl
end
end Lt

set_option Elab.async false
set_option linter.all false
set_option maxRecDepth 100000
set_option maxHeartbeats 2000000
namespace Lt
open PySem PySem.Spec PyProof.Rows L2
section
variable {X : Cx} {CX : CXT} {g C : Addr} {n : Nat} {sp : Sp} {E : XK} {fd : FuncData} {ps : List Str}
def rOwn (C : Addr) (sp : Sp) (E : XK) : V → Hp → VK → Prop := fun x H Q => ∃ a dx fs, x = .ref a ∧ H a = some (.ins C dx fs) ∧ sp [x] H Q E
theorem fn_type {K : PySem.W.Frag} {v : Value} (h : PySem.W.isFn K v = true) : PySem.W.typeIn K v = some (.type "function") := by
  unfold PySem.W.isFn at h
  exact beq_iff_eq.mp h
/-- -x by x's own def -/
theorem un_negI (hs : PySem.W.findIn X.K (.ref C) "__neg__" = some (some (.ref g))) (hf : PySem.W.isFn X.K (.ref g) = true) (F : FnOk X.prog X.w X.K X.mg X.base CX n g fd ps sp)
    (hb : Binds X.K fd ps []) (hr : Room n X.A) (hx : Passes CX X E) : UnR X (unaryOp .USub) (rOwn C sp E) := by
  intro pins s σ H x v Q I rx h
  obtain ⟨a, dx, fs, rfl, ha, q⟩ := h
  cases (show v = Value.ref a from rx)
  obtain ⟨mA, J, _⟩ := ins_get I.hok ha
  obtain ⟨od, J, _⟩ := J.look
  refine wpAny_holding ?_
  show wpAny _ _ (callSpecial? (.ref a) "__neg__" [] >>= _) _ _ _
  refine wpAny_bind (PySem.W.special_fn I.kIn J hs (fn_type hf) ?_)
  refine wpAny_mono (run_fn (vs := [.ref a]) (us := [.ref a]) F hr hb .nil hx I (.cons rfl .nil) q) (fun w s' z => ?_) fun _ _ x => x
  exact wpAny_pure z
/-- abs(x) by x's own def -/
def rOwnAbs (C : Addr) (sp : Sp) (E : XK) : List V → Hp → VK → Prop := fun xs H Q => ∃ a dx fs, xs = [.ref a] ∧ H a = some (.ins C dx fs) ∧ sp xs H Q E
theorem call_absI (hs : PySem.W.findIn X.K (.ref C) "__abs__" = some (some (.ref g))) (hf : PySem.W.isFn X.K (.ref g) = true) (F : FnOk X.prog X.w X.K X.mg X.base CX n g fd ps sp)
    (hb : Binds X.K fd ps []) (hr : Room (n + 1) X.A) (hx : Passes CX X E) : CallR X (.builtin "abs") (rOwnAbs C sp E) := by
  intro pins s σ H xs us Q I r h
  obtain ⟨a, dx, fs, rfl, ha, q⟩ := h
  obtain ⟨u, rfl, ru⟩ := L2.vals1 r
  cases (show u = Value.ref a from ru)
  obtain ⟨mA, J, _⟩ := ins_get I.hok ha
  obtain ⟨od, J, _⟩ := J.look
  refine PySem.Calls.call_function_entry kind_abs plain_abs entry_abs (args_abs _) ?_
  unfold Builtin.abs
  refine wpAny_bind (m := oneArg "abs" _) (wpAny_pure ?_)
  refine wpAny_bind (PySem.W.special_fn I.kIn J hs (fn_type hf) ?_)
  refine wpAny_mono (run_below (A := X.A.in1) (vs := [.ref a]) (us := [.ref a]) F (L2.Sub.in1 ⟨hr, rfl⟩) hb hx I (.cons rfl .nil) q) (fun w s' z => ?_) fun _ _ x => x
  exact wpAny_pure ⟨_, rfl, z⟩
end
section
variable {X : Cx} {CX : CXT} {k : Nat} {f : Addr} {fd : FuncData} {ps ks : List Str} {sp : Sp} {E : XK} {x : Str} {p pos : Pos} {kws : List Keyword} {tk : TA} {gV : List V → List V → List V}
/-- f(k = v, ..) -/
def tCallK0 (n : Nat) (sp : Sp) (gV : List V → List V → List V) (E : XK) (tk : TA) : TE := fun σ H Q => tk σ H fun zs H2 => zs.length = n ∧ sp (gV [] zs) H2 Q E
theorem pe_callK0X (F : FnOk X.prog X.w X.K X.mg X.base CX k f fd ps sp) (hr : Room k X.A) (hg : Gl X x) (hm : X.mg x = some (.ref f)) (hk : PySem.W.keepIn X.K (.ref f) = true) (hb : ∃ g, KBn X.K fd ps 0 ks g gV) (hx : Passes CX X E)
    (hkw : PK X kws tk) (hall : (backToKw pos (keywordEach kws X.env)).all (·.1.isSome) = true := by rfl) (hks : (backToKw pos (keywordEach kws X.env)).filterMap (·.1) = ks := by rfl)
    (hdb : (x == ("__debug__" : Str)) = false := by decide) (hpl : ((backTo pos (starEach [] X.env)).any (·.1) || (backToKw pos (keywordEach kws X.env)).any (·.1.isNone)) = false := by rfl) :
    PE X (.Call (.Name x p) [] kws pos) (tCallK0 ks.length sp gV E tk) := by
  obtain ⟨g, hb⟩ := hb
  refine ⟨fun pins s σ H Q I h => ?_⟩
  refine wpAny_Call_Name_kw (ld_glob I hg hm ?_ hdb)
  refine PySem.W.callWith_KW0 (h₀ := X.base) I.ok.mod.kin hk hall ?_ hpl
  refine thn (hkw.run pos pins s σ H _ I h) fun ws s2 ⟨zs, H2, I2, rz, l2, q2⟩ => ⟨I2.kIn, ?_⟩
  rw [hks]
  refine wpAny_call (codeAny_mono (F.run X.A X.stack s2 H2 ⟨[], ks.zip ws⟩ (g [] ws) (gV [] zs) _ E hr I2.env0 (hb.to s2 [] ws I2.kIn rfl (rz.length.symm.trans l2)) (hb.rel .nil rz) q2) fun r s' hq' => ?_)
  cases r with
  | error e => exact hx pins σ _ _ e s' I2 hq'
  | ok fl =>
    cases fl with
    | ret u => exact I2.after hq'
    | next => exact False.elim hq'
    | brk => exact False.elim hq'
    | cont => exact False.elim hq'
/-- the keywords of a call f(k = v, ..) with no default and no positional value, in the parameters' order -/
theorem kbA {K : PySem.W.Frag} {x qual : Str} {params : Arguments} {body : List Stmt} {scope : Scope} {kws : List (Str × V)} {f : Addr} {fd : FuncData} {ps : List Str} (F : FunD K x qual params body scope [] kws f fd)
    (h : ∀ (kV doc pm : Value) (an : Option Addr) (cdv ct : Value) (ws : List Value), ws.length = ps.length → bindArgs (PySem.W.fnOf x qual params body scope .none kV doc pm an cdv ct) ⟨[], ps.zip ws⟩ = pure (ps.zip ws)) :
    ∃ g, KBn K fd ps 0 ps g (fun _ zs => zs) := by
  obtain ⟨oc, od, dV, kV, doc, pm, an, cdv, ct, osl, rfl, lk, hcd, hD, hK⟩ := F.ex
  rcases hD with ⟨_, rfl⟩ | ⟨e, _⟩
  · refine ⟨fun _ ws => ws, ⟨fun s us ws X l1 l2 => ?_, fun r1 r2 => r2⟩⟩
    cases us with
    | nil => exact .of_eq (h kV doc pm an cdv ct ws l2)
    | cons _ _ => cases l1
  · exact absurd rfl e
namespace Rd
theorem callK0 {n : Nat} {σ : L2.St} {H : Hp} {Q : VK} (h : tk σ H fun zs H2 => zs.length = n ∧ sp (gV [] zs) H2 Q E) : tCallK0 n sp gV E tk σ H Q := h
end Rd
end
/-! ### a if t else b, as a test -/
def tIfT (tc ta tb : TT) : TT := fun σ H Q => tc σ H fun d H1 => Rd.Br d (ta σ H1 Q) (tb σ H1 Q)
theorem pt_ifExp {X : Cx} {c a b : Expr} {pos : Pos} {tc ta tb : TT} (hc : PT X c tc) (ha : PT X a ta) (hb : PT X b tb) : PT X (.IfExp c a b pos) (tIfT tc ta tb) := by
  refine ⟨fun pins s σ H Q I h => ?_⟩
  rw [PySem.isTrue.eq_def]
  dsimp only
  refine wpAny_bind (thn (hc.run pins s σ H _ I h) fun d s1 ⟨H1, I1, q1⟩ => ?_)
  cases d with
  | true => exact ha.run pins s1 σ H1 Q I1 q1
  | false => exact hb.run pins s1 σ H1 Q I1 q1
theorem Rd.ifT {tc ta tb : TT} {σ : L2.St} {H : Hp} {Q : Bool → Hp → Prop} (h : tc σ H fun d H1 => Rd.Br d (ta σ H1 Q) (tb σ H1 Q)) : tIfT tc ta tb σ H Q := h
end Lt

set_option Elab.async false
set_option linter.all false
set_option maxRecDepth 100000
set_option maxHeartbeats 2000000
namespace Lt
open PySem PySem.Spec PyProof.Rows L2
/-! ### static methods -/
/-- where the function of a static method stands -/
def sAd (K : PySem.W.Frag) (p : Str × Option Str) : Addr := match PySem.W.recIn K (He.fAd K p) "staticmethod" with
  | some (.ref f :: _) => f
  | _ => 0
def sW (K : PySem.W.Frag) (p : Str × Option Str) : He.FnW := match K.lookup (sAd K p) with
  | some ⟨_, _, .func fd, _⟩ => some (fd.name, fd.qualname, fd.params, fd.body, fd.scope, fd.globals, fd.closure, fd.builtins)
  | _ => none
def sOk (K : PySem.W.Frag) (d : He.DefD) : Bool := PySem.W.keepIn K (.ref (sAd K d.at_)) && (match K.lookup (sAd K d.at_) with
  | some ⟨_, _, .func fd, _⟩ => PySem.W.codeIn K fd.code d.qual && (He.dflB K fd.defaults (d.dvs K) && He.kwdB K fd.kwdefaults (d.kws K))
  | _ => false)
theorem sFunD {K : PySem.W.Frag} {d : He.DefD} (e : sW K d.at_ = d.val) (c : sOk K d = true) : ∃ fd, FunD K d.name d.qual d.params d.body d.scope (d.dvs K) (d.kws K) (sAd K d.at_) fd := by
  obtain ⟨kp, c2⟩ := He.ba c
  unfold sW at e
  cases q : K.lookup (sAd K d.at_) with
  | none =>
    rw [q] at c2
    cases c2
  | some o =>
    obtain ⟨oc, od, dt, osl⟩ := o
    rw [q] at c2 e
    cases dt with
    | func fd =>
      obtain ⟨n1, n2, n3, n4, n5, n6, n7, n8, n9, n10, n11, n12, n13, n14, n15⟩ := fd
      have e2 : (some (n1, n2, n3, n4, n5, n6, n7, n15) : He.FnW) = some (d.name, d.qual, d.params, .stmts d.body, d.scope, mainGlobals, [], builtinsNs) := e
      simp only [Option.some.injEq, Prod.mk.injEq] at e2
      obtain ⟨h1, h2, h3, h4, h5, h6, h7, h8⟩ := e2
      subst h1 h2 h3 h4 h5 h6 h7 h8
      have c3 : (PySem.W.codeIn K n13 d.qual && (He.dflB K n8 (d.dvs K) && He.kwdB K n9 (d.kws K))) = true := c2
      obtain ⟨k1, k2⟩ := He.ba c3
      obtain ⟨k3, k4⟩ := He.ba k2
      exact ⟨_, ⟨oc, od, n8, n9, n10, n11, n12, n13, n14, osl, rfl, q, k1, He.dflB_ok k3, He.kwdB_ok k4⟩, kp⟩
    | _ => cases c2
/-- C.m is a static method, its function at g -/
structure SMet (K : PySem.W.Frag) (C g : Addr) (m : Str) : Prop where
  rd : PySem.W.readsIn K C (.type "type") = true
  ga : PySem.W.specialIn K (.ref C) "__getattribute__" = some (some (.builtin "type.__getattribute__"))
  at_ : ∃ p rest, PySem.W.findCls K (.ref C) (.type "type") m = some (.get (.builtin "staticmethod.__get__") (.ref p) .none (.ref C)) ∧ PySem.W.recIn K p "staticmethod" = some (.ref g :: rest)
def sMetB (K : PySem.W.Frag) (x m : Str) : Bool := PySem.W.readsIn K (He.ga K x) (.type "type") && (decide (PySem.W.specialIn K (.ref (He.ga K x)) "__getattribute__" = some (some (.builtin "type.__getattribute__"))) &&
  ((match PySem.W.findCls K (.ref (He.ga K x)) (.type "type") m with
      | some (.get g a o t) => decide (g = .builtin "staticmethod.__get__") && (decide (a = .ref (He.fAd K (x, some m))) && (decide (o = .none) && decide (t = .ref (He.ga K x))))
      | _ => false) &&
    (match PySem.W.recIn K (He.fAd K (x, some m)) "staticmethod" with
      | some (.ref _ :: _) => true
      | _ => false)))
theorem sMet_of {K : PySem.W.Frag} {x m : Str} (h : sMetB K x m = true) : SMet K (He.ga K x) (sAd K (x, some m)) m := by
  obtain ⟨h1, h⟩ := He.ba h
  obtain ⟨h2, h⟩ := He.ba h
  obtain ⟨h3, h4⟩ := He.ba h
  have h3' : PySem.W.findCls K (.ref (He.ga K x)) (.type "type") m = some (.get (.builtin "staticmethod.__get__") (.ref (He.fAd K (x, some m))) .none (.ref (He.ga K x))) := by
    cases q : PySem.W.findCls K (.ref (He.ga K x)) (.type "type") m with
    | none => rw [q] at h3; cases h3
    | some z =>
      rw [q] at h3
      cases z with
      | val v => cases h3
      | get g a o t =>
        obtain ⟨e1, h3⟩ := He.ba h3
        obtain ⟨e2, h3⟩ := He.ba h3
        obtain ⟨e3, e4⟩ := He.ba h3
        rw [of_decide_eq_true e1, of_decide_eq_true e2, of_decide_eq_true e3, of_decide_eq_true e4]
  refine ⟨h1, of_decide_eq_true h2, He.fAd K (x, some m), ?_⟩
  unfold sAd
  cases q : PySem.W.recIn K (He.fAd K (x, some m)) "staticmethod" with
  | none => rw [q] at h4; cases h4
  | some l =>
    rw [q] at h4
    cases l with
    | nil => cases h4
    | cons v r =>
      cases v with
      | ref f => exact ⟨r, h3', rfl⟩
      | _ => cases h4
section
variable {X : Cx} {CX : CXT} {k : Nat} {C g : Addr} {fd : FuncData} {ps : List Str} {sp : Sp} {E : L2.St → XK} {o e : Expr} {es : List Expr} {m : Str} {pos apos : Pos} {ta : TE} {t : TA} {pl : Sem Bool}
/-- C.m(e, ..), m a static method of the class at C -/
def tSMeth (C : Addr) (sp : Sp) (E : L2.St → XK) (ta : TE) (t : TA) : TE := fun σ H Q => ta σ H fun x H1 => x = .ref C ∧ t σ H1 fun vs H2 => sp vs H2 Q (E σ)
theorem pe_smeth (he : PE X o ta) (r : SMet X.K C g m) (F : FnOk X.prog X.w X.K X.mg X.base CX k g fd ps sp) (hk : PySem.W.keepIn X.K (.ref g) = true) (hr : Room k X.A) (hb : Binds X.K fd ps []) (hx : ∀ σ, PassesAt CX X σ (E σ)) (ha : PA X (e :: es) t)
    (hst : starEach (e :: es) X.env = (false, eval e X.env) :: starEach es X.env := by rfl) (hpl : (backTo pos (starEach es X.env)).any (·.1) = false := by rfl)
    (ht : eval (.Call (.Attribute o m apos) (e :: es) [] pos) X.env = (do
      let ov ← eval o X.env
      standAt apos.atName
      let (f, first) ← holding [ov] (getMethod ov m pl)
      callWith pos f first (backTo pos (starEach (e :: es) X.env)) (backToKw pos (keywordEach [] X.env))) := by rfl) :
    PE X (.Call (.Attribute o m apos) (e :: es) [] pos) (tSMeth C sp E ta t) := by
  refine ⟨fun pins s σ H Q I h => ?_⟩
  refine PySem.W.methodCall_KW (pl := pl) (thn (he.run pins s σ H _ I h) fun u s1 ⟨x, H1, I1, rx, ex, q⟩ => ?_) ht
  subst ex
  obtain rfl : u = Value.ref C := rx
  obtain ⟨p, rest, e1, e2⟩ := r.at_
  refine PySem.W.method_cls I1.kIn r.ga (PySem.W.cls_bind I1.kIn r.rd e1 ?_)
  refine wpAny_call (PySem.W.sm_get (s := { s1 with toks := s1.toks + 1 }) I1.kIn e2 (PySem.W.handed_on rfl ?_))
  have I2 := I1.tok (s1.toks + 1)
  refine PySem.W.callWith_K (h₀ := X.base) I1.ok.mod.kin hk (thn (ha.run pos _ _ σ H1 _ I2 q) fun us s3 ⟨vs, H2, I3, rv, q2⟩ => ⟨I3.kIn, ?_⟩) hst hpl
  exact run_fnS F hr hb (hx σ) I3 rv q2
end
theorem Rd.smeth {C : Addr} {sp : Sp} {E : L2.St → XK} {ta : TE} {t : TA} {σ : L2.St} {H : Hp} {Q : VK} (h : ta σ H fun x H1 => x = .ref C ∧ t σ H1 fun vs H2 => sp vs H2 Q (E σ)) : tSMeth C sp E ta t σ H Q := h
/-- a written text by its signs; a text of the module -/
theorem pe_strL {X : Cx} {z : Str} {l : List Nat} {k : Nat} {p : Pos} (h : z = SX.S l) : PE X (.Constant (.str z) k p) (tC (.str (SX.S l))) := by
  rw [← h]
  exact pe_str
theorem pe_globS {X : Cx} {x z : Str} {p : Pos} (hg : Gl X x) (hm : ∃ t, X.mg x = some (.str z t)) (hdb : (x == ("__debug__" : Str)) = false := by decide) : PE X (.Name x p) (tC (.str z)) := by
  obtain ⟨t, hm⟩ := hm
  exact pe_glob hg hm ⟨_, rfl⟩ hdb
/-! ### a Hook with static methods -/
def obsS (fa : List He.Fa) (fs : List (PySem.W.Frag → Bool)) (fn sn : List He.DefD) (K : PySem.W.Frag) : He.AlD :=
  ((fa.all fun f => f.ok K) && ((fs.all fun f => f K) && ((fn.all fun d => d.ok K) && sn.all fun d => sOk K d)), (fn.map fun d => He.fnW K d.at_) ++ sn.map fun d => sW K d.at_)
def SaysS (fa : List He.Fa) (fs : List (PySem.W.Frag → Bool)) (fn sn : List He.DefD) (K : PySem.W.Frag) : Prop := obsS fa fs fn sn K = He.valD (fn ++ sn)
def obsSG (n : Nat) (fa : List He.Fa) (fs : List (PySem.W.Frag → Bool)) (fn sn : List He.DefD) (g : Addr → Option Obj) : He.AlD := obsS fa fs fn sn (He.frG g (cStatics :: He.asD g n))
def hookS (n : Nat) (fa : List He.Fa) (fs : List (PySem.W.Frag → Bool)) (fn sn : List He.DefD) : PySem.W.Hook where
  α := He.AlD
  obs := fun s => obsSG n fa fs fn sn s.heap.get?
  val := fun _ => He.valD (fn ++ sn)
  says := fun _ h => ∃ K : PySem.W.Frag, K.In h ∧ SaysS fa fs fn sn K
  of := fun _ _ e => ⟨_, He.frG_in, e⟩
  keeps := fun _ _ _ ⟨K, hK, c⟩ k => ⟨K, PySem.W.Frag.In.keeps hK k, c⟩
theorem obsSG_eq {n : Nat} {fa : List He.Fa} {fs : List (PySem.W.Frag → Bool)} {fn sn : List He.DefD} {g : Addr → Option Obj} {s : Shared} (h : ∀ a, g a = s.heap.get? a) : obsSG n fa fs fn sn g = (hookS n fa fs fn sn).obs s := by
  have e : g = s.heap.get? := funext h
  rw [e] <;> rfl
section
variable {fa : List He.Fa} {fs : List (PySem.W.Frag → Bool)} {fn sn : List He.DefD} {K : PySem.W.Frag}
theorem SaysS.fst (c : SaysS fa fs fn sn K) : ((fa.all fun f => f.ok K) && ((fs.all fun f => f K) && ((fn.all fun d => d.ok K) && sn.all fun d => sOk K d))) = true := congrArg (fun z : He.AlD => z.1) c
theorem SaysS.snd (c : SaysS fa fs fn sn K) : (fn.map fun d => He.fnW K d.at_) ++ (sn.map fun d => sW K d.at_) = (fn ++ sn).map He.DefD.val := congrArg (fun z : He.AlD => z.2) c
theorem SaysS.fact (c : SaysS fa fs fn sn K) (i : Nat) {f : He.Fa} (h : fa[i]? = some f) : f.ok K = true :=
  List.all_eq_true.mp (He.ba c.fst).1 f (List.mem_of_getElem? h)
theorem SaysS.chk (c : SaysS fa fs fn sn K) (i : Nat) {f : PySem.W.Frag → Bool} (h : fs[i]? = some f) : f K = true :=
  List.all_eq_true.mp (He.ba (He.ba c.fst).2).1 f (List.mem_of_getElem? h)
theorem SaysS.def_ (c : SaysS fa fs fn sn K) (i : Nat) {d : He.DefD} (h : fn[i]? = some d) : ∃ fd, FunD K d.name d.qual d.params d.body d.scope (d.dvs K) (d.kws K) (He.fAd K d.at_) fd := by
  have c2 := (He.ba (He.ba (He.ba c.fst).2).2).1
  have e := c.snd
  rw [List.map_append] at e
  have e1 : fn.map (fun d => He.fnW K d.at_) = fn.map He.DefD.val := (List.append_inj e (by simp)).1
  have e2 : (fn.map fun d => He.fnW K d.at_)[i]? = (fn.map He.DefD.val)[i]? := by rw [e1]
  rw [List.getElem?_map, List.getElem?_map, h] at e2
  exact He.DefD.funD (Option.some.inj e2) (List.all_eq_true.mp c2 d (List.mem_of_getElem? h))
theorem SaysS.stat (c : SaysS fa fs fn sn K) (i : Nat) {d : He.DefD} (h : sn[i]? = some d) : ∃ fd, FunD K d.name d.qual d.params d.body d.scope (d.dvs K) (d.kws K) (sAd K d.at_) fd := by
  have c2 := (He.ba (He.ba (He.ba c.fst).2).2).2
  have e := c.snd
  rw [List.map_append] at e
  have e1 : sn.map (fun d => sW K d.at_) = sn.map He.DefD.val := (List.append_inj e (by simp)).2
  have e2 : (sn.map fun d => sW K d.at_)[i]? = (sn.map He.DefD.val)[i]? := by rw [e1]
  rw [List.getElem?_map, List.getElem?_map, h] at e2
  exact sFunD (Option.some.inj e2) (List.all_eq_true.mp c2 d (List.mem_of_getElem? h))
end
/-! ### own exception classes with an own __init__ -/
/-- what a class must have: made, its field read -/
structure ExK (K : PySem.W.Frag) (C fI : Addr) : Prop where
  oex : OexC K C
  xf : XfC K C
  iC : PySem.W.findIn K (.ref C) "__init__" = some (some (.ref fI))
  tI : PySem.W.typeIn K (.ref fI) = some (.type "function")
  te : PySem.W.exmOne K (.ref C) (.ref C) = some true
def exClsB (K : PySem.W.Frag) (C : Addr) : Bool := match K.lookup C with
  | some ⟨.type "type", _, .cls cd, sl⟩ => (match cd.mro, sl.toList with
    | .ref C' :: bm, [_, _, _, _, some (.builtin n), _] => C' == C && (n == "ValueError.__new__" && (!cd.hasDel && (cd.hasDict && PySem.HandSPX.refsVE bm)))
    | _, _ => false)
  | _ => false
theorem exCls_of {K : PySem.W.Frag} {C : Addr} (q : exClsB K C = true) : ∃ nm q N bs bm sn sub ab col dd k0 k1 k2 k3 k5, K.lookup C = some (excClassObj nm q C N bs bm true sn sub ab col dd k0 k1 k2 k3 k5 "ValueError.__new__") ∧ PySem.HandSPX.refsVE bm = true := by
  unfold exClsB at q
  split at q
  · rename_i dd cd sl ho
    split at q
    · rename_i C' bm k0 k1 k2 k3 n k5 hm hs
      simp only [Bool.and_eq_true, beq_iff_eq, Bool.not_eq_true'] at q
      obtain ⟨rfl, rfl, hdel, hdi, ht⟩ := q
      obtain ⟨nm, bs, mro, ns, qn, hd, sn, sub, ab, col, del⟩ := cd
      dsimp only at hm hdel hdi
      subst hm hdel hdi
      have hsl : sl = #[k0, k1, k2, k3, some (.builtin "ValueError.__new__"), k5] := by
        obtain ⟨l⟩ := sl
        simp only at hs
        rw [hs]
      subst hsl
      exact ⟨nm, qn, ns, bs, bm, sn, sub, ab, col, dd, k0, k1, k2, k3, k5, ho, ht⟩
    · cases q
  · cases q
/-- decided of the name x of the module -/
def exKB (K : PySem.W.Frag) (x : Str) : Bool := exClsB K (He.ga K x) && (decide (PySem.W.findIn K (.ref (He.ga K x)) "__setattr__" = some (some (.builtin "object.__setattr__"))) && (decide (PySem.W.subIn K (.ref (He.ga K x)) (.type "BaseException") = some true) &&
  (decide (PySem.W.typeIn K (.ref (He.ga K x)) = some (.type "type")) && (PySem.W.keepIn K (.ref (He.ga K x)) && (xfB K (He.ga K x) && (decide (PySem.W.findIn K (.ref (He.ga K x)) "__init__" = some (some (.ref (He.ma K (He.ga K x) "__init__")))) &&
    (decide (PySem.W.typeIn K (.ref (He.ma K (He.ga K x) "__init__")) = some (.type "function")) && decide (PySem.W.exmOne K (.ref (He.ga K x)) (.ref (He.ga K x)) = some true))))))))
theorem exK_of {K : PySem.W.Frag} {x : Str} (h : exKB K x = true) : ExK K (He.ga K x) (He.ma K (He.ga K x) "__init__") := by
  obtain ⟨h1, h⟩ := He.ba h
  obtain ⟨h2, h⟩ := He.ba h
  obtain ⟨h3, h⟩ := He.ba h
  obtain ⟨h4, h⟩ := He.ba h
  obtain ⟨h5, h⟩ := He.ba h
  obtain ⟨h6, h⟩ := He.ba h
  obtain ⟨h7, h⟩ := He.ba h
  obtain ⟨h8, h9⟩ := He.ba h
  exact ⟨⟨exCls_of h1, of_decide_eq_true h2, of_decide_eq_true h3, of_decide_eq_true h4, h5⟩, xfB_ok h6, of_decide_eq_true h7, of_decide_eq_true h8, of_decide_eq_true h9⟩
/-- the promise of an __init__ that says self.f = x, no more -/
def spExI (C : Addr) (f : Str) : Sp := fun vs H Q _ => ∃ (a : Addr) (v : V), vs = [.ref a, v] ∧ H a = some (exo a C none) ∧ ∀ d, H d = none → d ≠ a → Q .non (upd (upd H d (exd d [(f, v)])) a (exo a C (some d)))
/-- C(v), raised: what is left of it is its dict -/
theorem mkO_ask {C : Addr} {f : Str} {σ : L2.St} {H : Hp} {Q : XK} {ta : TA} (h : ta σ H fun vs H1 => ∃ v, vs = [v] ∧ ∀ d, H1 d = none → Q (.ref C) (some d) (upd H1 d (.xd [(f, v)]))) (mono : ∀ {K1 K2 : List V → Hp → Prop}, (∀ vs H', K1 vs H' → K2 vs H') → ta σ H K1 → ta σ H K2) :
    tMkO C (spExI C f) [] ta σ H Q := by
  refine mono (fun vs H1 hh => ?_) h
  obtain ⟨v, rfl, k⟩ := hh
  refine ⟨by simp, fun a ha => ⟨a, v, rfl, upd_same, fun d hd hda => ⟨rfl, d, [(f, v)], upd_same, ?_, ?_, ?_⟩⟩⟩
  · rw [upd_ne hda, upd_same]
  · rw [upd_ne hda] at hd
    exact hd
  · rw [upd_ne hda] at hd
    have e : upd (del (upd (upd (upd H1 a (exo a C none)) d (exd d [(f, v)])) a (exo a C (some d))) a) d (.xd [(f, v)]) = upd H1 d (.xd [(f, v)]) := by
      funext b
      by_cases h1 : b = d
      · subst h1
        rw [upd_same, upd_same]
      · rw [upd_ne h1, upd_ne h1]
        by_cases h2 : b = a
        · subst h2
          rw [del_same, ha]
        · rw [del_ne h2, upd_ne h2, upd_ne h1, upd_ne h2]
    rw [e]
    exact k d hd
end Lt

set_option Elab.async false
set_option linter.all false
set_option maxRecDepth 100000
set_option maxHeartbeats 2000000
namespace Lt
open PySem PySem.Spec PyProof.Rows L2
/-! ### a class over ValueError called with keywords -/
section
open PySem.HandSPX
variable {M : Model} {prog : Program} {w : World} {A : Around} {E : Value → Shared → Prop} {R : Result → Shared → Prop} {h : Heap} {g : Array GenState} {d : Drawn} {t : Nat} {os : OsState}
variable {nm q : Str} {C N : Addr} {bs bm bmB : List Value} {hdct : Bool} {sn : List Str} {sub : List Value} {ab : Bool} {col : Option Bool} {dd : Option Addr} {k0 k1 k2 k3 k5 : Option Value} {B newId initId : String} {kw : List (Str × Value)}
local macro_rules | `(tactic| walk_at "kw1") => `(tactic| first
  | with_reducible refine wpAny_loadPart_at (by assumption) ?_
  | (with_reducible refine wpAny_isSubtype_exc (by assumption) ?_; first | rw [‹(Value.ref C :: bm).contains (.type B) = true›] | rw [‹(Value.ref C :: bm).contains (.type "AttributeError") = false›] | rw [‹(Value.ref C :: bm).contains (.type "NameError") = false›])
  | with_reducible refine wpAny_staticBase_exc (by assumption) ?_
  | with_reducible refine wpAny_madeBy_exc (by assumption) ?_
  | simp only [bne_self_eq_false, Bool.false_eq_true, if_false]
  | wp_step)
local macro_rules | `(tactic| walk_at "kwn") => `(tactic| repeat (walk_at "kw1"))
theorem check_new_kw (F : ExcBaseFacts B newId initId bmB) (hT : ∀ X : String, bm.contains (.type X) = bmB.contains (.type X)) {Q : Unit → Shared → Prop}
    (hC : h.get? C = some (excClassObj nm q C N bs bm hdct sn sub ab col dd k0 k1 k2 k3 k5 newId)) (hq : Q () ⟨h, g, d, t, os⟩) : wpAny M A (checkBuiltinCall newId ⟨[.ref C], kw⟩) Q E ⟨h, g, d, t, os⟩ := by
  have e1 : (Value.ref C :: bm).contains (.type B) = true := by rw [List.contains_cons, hT, F.hasB, Bool.or_true]
  have e2 := F.noStar
  simp only [checkBuiltinCall, F.newKind, F.newSplit, F.newRow]
  walk_at "kwn"
  exact hq
theorem new_kw (F : ExcBaseFacts B newId initId bmB) (hT : ∀ X : String, bm.contains (.type X) = bmB.contains (.type X))
    (hC : h.get? C = some (excClassObj nm q C N bs bm hdct sn sub ab col dd k0 k1 k2 k3 k5 newId))
    (hq : R (.ok (.ret (.ref (h.objs.size + 1)))) ⟨(h.push (PySem.W.kdv_tup [])).push (excO C h.objs.size), g, d, t, os⟩) :
    codeAny (model prog w) A (.builtin newId ⟨[.ref C], kw⟩) R ⟨h, g, d, t, os⟩ := by
  have e0 := F.ends
  have e1 : (Value.ref C :: bm).contains (.type B) = true := by rw [List.contains_cons, hT, F.hasB, Bool.or_true]
  have e2 : (Value.ref C :: bm).contains (.type "AttributeError") = false := by rw [List.contains_cons, hT, F.noAttr]; rfl
  have e3 : (Value.ref C :: bm).contains (.type "NameError") = false := by rw [List.contains_cons, hT, F.noName]; rfl
  refine codeAny_builtinAt F.entry ?_
  unfold Builtin.«BaseException.__new__»
  refine PySem.wpAt_bind ?_
  show PySem.wpAt _ _ _ (stack >>= _) _ _ _
  refine PySem.wpAt_bind (PySem.wpAt_stack fun p below => PySem.wpAt_of_wpAny ?_)
  wp_walk
  refine PySem.wpAt_of_wpAny ?_
  rw [F.owner]
  repeat (first | with_reducible refine wpAny_madeHere_exc F.canon hC ?_ | walk_at "kw1")
  show R _ _
  rw [Heap.size_push]
  exact hq
theorem type_call_kw (F : ExcBaseFacts B newId initId bmB) (hT : ∀ X : String, bm.contains (.type X) = bmB.contains (.type X)) {fI : Addr} {Q : Fin → Shared → Prop}
    (hC : h.get? C = some (excClassObj nm q C N bs bm hdct sn sub ab col dd k0 k1 k2 k3 k5 newId))
    (hi : PySem.W.Looks (model prog w) h (typeLookup (.ref C) "__init__") (some (.ref fI))) (hb : ∀ self, PySem.W.Looks (model prog w) h (bindSpecial (.ref fI) self) (.ref fI, [self]))
    (hq : codeAny (model prog w) A (.call (.ref fI) ⟨[.ref (h.objs.size + 1)], kw⟩) (fun r s' => match r with | .ok (.ret v) => v = .none ∧ Q (.done (.ret (.ref (h.objs.size + 1)))) s' | .ok _ => False | .error e => E e s')
      ⟨(h.push (PySem.W.kdv_tup [])).push (excO C h.objs.size), g, d, t, os⟩) :
    wpAny (model prog w) A (Builtin.«type.__call__» ⟨[.ref C], kw⟩) Q E ⟨h, g, d, t, os⟩ := by
  walk_at "kwn"
  refine codeAny_call_builtin_code (Code.quiet_builtin _ F.quiet) (check_new_kw F hT hC (new_kw F hT hC ?_))
  show wpAny _ _ _ _ _ _
  have kk : ∀ b o, h.get? b = some o → ((h.push (PySem.W.kdv_tup [])).push (excO C h.objs.size)).get? b = some o := fun b o e => Heap.get?_push_of_some _ (Heap.get?_push_of_some _ e)
  have hC2 := kk _ _ hC
  have hx : ((h.push (PySem.W.kdv_tup [])).push (excO C h.objs.size)).get? (h.objs.size + 1) = some (excO C h.objs.size) := by heap_get
  have hcc : (Value.ref C :: bm).contains (.ref C) = true := by simp
  have i2 := hi.keeps kk
  have b2 := (hb (.ref (h.objs.size + 1))).keeps kk
  unfold isInstance
  repeat (first | with_reducible refine wpAny_loadPart_at hx ?_ | (with_reducible refine wpAny_isSubtype_exc hC2 ?_; rw [hcc]) | wp_step)
  show wpAny _ _ (typeLookup (.ref C) _) _ _ _
  refine i2.at (wpAny_holding (wpAny_bind (b2.at (wpAny_bind (wpAny_call (codeAny_mono hq fun r s' z => ?_))))))
  cases r with
  | error e => exact z
  | ok fl =>
    cases fl with
    | ret v =>
      obtain ⟨rfl, z⟩ := z
      exact wpAny_pure (wpAny_pure z)
    | next => exact False.elim z
    | brk => exact False.elim z
    | cont => exact False.elim z
theorem call_kw (F : ExcBaseFacts B newId initId bmB) (hT : ∀ X : String, bm.contains (.type X) = bmB.contains (.type X)) {fI : Addr}
    (hC : h.get? C = some (excClassObj nm q C N bs bm hdct sn sub ab col dd k0 k1 k2 k3 k5 newId))
    (hi : PySem.W.Looks (model prog w) h (typeLookup (.ref C) "__init__") (some (.ref fI))) (hb : ∀ self, PySem.W.Looks (model prog w) h (bindSpecial (.ref fI) self) (.ref fI, [self]))
    (hq : codeAny (model prog w) (A.under (.builtin "type.__call__" ⟨[.ref C], kw⟩)) (.call (.ref fI) ⟨[.ref (h.objs.size + 1)], kw⟩) (PySem.W.InitBack (h.objs.size + 1) R)
      ⟨(h.push (PySem.W.kdv_tup [])).push (excO C h.objs.size), g, d, t, os⟩) :
    codeAny (model prog w) A (.call (.ref C) ⟨[], kw⟩) R ⟨h, g, d, t, os⟩ := by
  have g1 := tc_lookup
  have g2 := tc_bind (.ref C)
  have hTy : (⟨h, g, d, t, os⟩ : Shared).TypeIs (.ref C) "type" := ⟨_, hC, rfl⟩
  refine codeAny_of_tree ?_
  show wpAny _ _ (callAny (.ref C) _) _ _ _
  repeat (any_goals (first | assumption | with_reducible refine wpAny_loadPart_at hC ?_ | wp_step))
  refine ⟨rfl, codeAny_call_builtin_at (Code.quiet_builtin _ (by decide +kernel)) entry_typeCall (wpAny_check_type_call_sub hC (type_call_kw F hT hC hi hb (codeAny_mono hq fun r s' z => ?_)))⟩
  cases r with
  | error e => exact z
  | ok fl => cases fl <;> exact z
end
/-! ### isinstance of a made exception -/
section
open PySem.W
variable {prog : Program} {w : World} {A : Around} {E : Value → Shared → Prop} {s : Shared} {K : Frag} {x D : Addr} {ox : Obj} {od : Option Obj}
theorem find_data {name : Str} {a g : Value} (hc : (clsIn K D).isSome = true) (ha : findIn K (.ref D) name = some (some a)) (hg : specialIn K a "__get__" = some (some g)) (ht : takesIn K a = some true) : findObj K D od name = some (.bind g a) := by
  obtain ⟨cd, hcd⟩ := Option.isSome_iff_exists.mp hc
  unfold findObj
  rw [hcd, Option.bind_some, ha, Option.bind_some] <;> simp [hg, ht]
theorem class_of_exc (C : ExcC K D) (X : K.In s.heap) (I : InstAt s.heap x ox D od) {Q : Option Value → Shared → Prop} (h : Q (some (.ref D)) { s with toks := s.toks + 1 }) : wpAny (model prog w) A (getAttr? (.ref x) "__class__") Q E s := by
  have f : findObj K D od "__class__" = some (.bind (.builtin "getset_descriptor.__get__") (.builtin "object.__class__")) := find_data (by obtain ⟨cd, hc, _⟩ := any_some C.hd; rw [hc]; rfl) C.ha C.hn C.ht
  obtain ⟨hp, g, d, t, os⟩ := s
  have K0 := I.type (M := model prog w)
  have K1 := looks_findIn (M := model prog w) X C.hg
  have K2 := looks_findIn (M := model prog w) X C.hk
  have K3 := looks_find (M := model prog w) X I f
  have K4 : Looks (model prog w) hp (isInstance (.ref x) (.type "BaseException")) true := K0.andThen (looks_subIn X C.hs)
  have n0 : (false && onTheHeap (Value.builtin "BaseException.__getattribute__")) = false := rfl
  have n1 : (onTheHeap (Value.ref D) && Value.builtin "BaseException.__getattribute__" == Value.builtin "object.__getattribute__") = false := by
    rw [show (Value.builtin "BaseException.__getattribute__" == Value.builtin "object.__getattribute__") = false by decide +kernel]
    rfl
  unfold getAttr? getAttrBy? getAttrBy
  refine wpAny_bind (wpAny_mkText (wpAny_bind (wpAny_attempt (wpAny_holding (wpAny_bind (K0.at (wpAny_bind (K1.at ?_))))))))
  show wpAny _ _ (if (onTheHeap (Value.ref D) && Value.builtin "BaseException.__getattribute__" == Value.builtin "object.__getattribute__") = true then _ else _) _ _ _
  rw [if_neg (by rw [n1]; exact Bool.false_ne_true)]
  unfold getAttrByItsOwn hookBefore
  refine wpAny_bind ?_
  rw [if_pos (show onTheHeap (Value.ref D) = true from rfl)]
  refine K2.at (wpAny_bind (wpAny_attempt (wpAny_holding ?_)))
  unfold callGetattribute
  rw [if_neg (by rw [n0]; exact Bool.false_ne_true)]
  unfold boundAndCalled
  rw [PySem.F.excAttr_ValueError.ga.bind (.ref x)]
  refine wpAny_bind (wpAny_pure ?_)
  show wpAny _ _ (call (.builtin "BaseException.__getattribute__") [.ref x, .str "__class__" t]) _ _ _
  refine wpAny_call (codeAny_call_builtin PySem.F.excAttr_ValueError.ga.plain PySem.F.entry_bexc_ga (@check_slot (model prog w) _ _ ⟨hp, g, d, t + 1, os⟩ "BaseException.__getattribute__" "BaseException" "__getattribute__" (.ref x) [.str "__class__" t] [] _ (by decide +kernel) (by decide +kernel) K4 (PySem.F.args_bexc_ga (.ref x) (.str "__class__" t)) ?_))
  unfold Builtin.«object.__getattribute__»
  refine wpAny_bind (wpAny_of_eq (a := ((Value.ref x : Value), [Value.str "__class__" t])) (by first | rfl | (simp only [slotArgs]; rfl)) (wpAny_bind (wpAny_pure (wpAny_bind (K0.at (wpAny_bind (K3.at ?_)))))))
  show wpAny _ _ (holding [Value.builtin "object.__class__"] (call (.builtin "getset_descriptor.__get__") [.builtin "object.__class__", .ref x, .ref D]) >>= ret) _ _ _
  refine wpAny_bind (wpAny_holding (wpAny_call (class_get (s := ⟨hp, g, d, t + 1, os⟩) (ox := ox) (od := od) X I C.hm (wpAny_pure ?_))))
  show wpAny _ _ (handedOut (.ref D)) _ _ _
  rw [handedOut_of (v := .ref D) rfl]
  first
    | exact wpAny_pure (wpAny_pure h)
    | exact wpAny_pure h
    | exact wpAny_pure (wpAny_bind (wpAny_pure (wpAny_pure h)))
theorem kit_exc (C : ExcC K D) : KitX K (.ref x) (.ref D) (fun h => InstAt h x ox D od) := by
  obtain ⟨cdD, hcD, _⟩ := any_some C.hd
  unfold clsIn at hcD
  split at hcD
  · rename_i c' d' cd' sl' ho
    refine ⟨fun _ _ _ I => I.type, fun _ _ X _ => ?_, fun h tp dd its n sl X htp => ?_, fun X I k => class_of_exc C X I k⟩
    · intro A' Q' E' s' k q
      unfold isType loadHead
      exact wpAny_bind (wpAny_loadPart (k _ _ (X _ _ ho)) (wpAny_pure q))
    · refine Bool.eq_false_iff.mpr fun q => ?_
      have e : D = tp := Value.ref.inj (beq_iff_eq.mp q)
      subst e
      cases (X _ _ ho).symm.trans htp
  · cases hcD
end
/-- e, an exception of the class at D that is held as a value -/
def ExAt (H : Hp) (a D : Addr) : Prop := H a = some (exo a D none) ∨ ∃ d fs, H a = some (exo a D (some d)) ∧ H d = some (exd d fs)
def rIsX (K : PySem.W.Frag) : List V → Hp → VK → Prop := fun xs H Q => ∃ (a D : Addr) (c : V) (cv : Value) (b : Bool), xs = [.ref a, c] ∧ ExcC K D ∧ ExAt H a D ∧ ClsV c cv ∧ PySem.W.kitOne K (.ref D) cv = some b ∧ Q (.bl b) H
theorem exAt_inst {X : Cx} {pins : List (Addr × Obj)} {σ : L2.St} {H : Hp} {s : Shared} {a D : Addr} (I : Inv X pins σ H s) (h : ExAt H a D) : ∃ ox od, PySem.W.InstAt s.heap a ox D od := by
  rcases h with h | ⟨d, fs, h, hd⟩
  · obtain ⟨t1, ho⟩ := exo_at I.hok h
    exact ⟨_, none, ho, rfl, rfl, trivial⟩
  · obtain ⟨t1, ho⟩ := exo_at I.hok h
    obtain ⟨mA, hns, _⟩ := exd_at I.hok hd
    obtain ⟨od, hod, _⟩ := lookIn_ns hns
    exact ⟨_, some od, ho, rfl, rfl, hod⟩
theorem call_isX {X : Cx} : CallR X (.builtin "isinstance") (rIsX X.K) := by
  intro pins s σ H xs us Q I r h
  obtain ⟨a, D, c, cv, b, rfl, hC, hA, k, e, q⟩ := h
  obtain ⟨u1, u2, rfl, r1, r2⟩ := vals2 r
  cases (show u1 = Value.ref a from r1)
  have e2 := k.eq r2
  subst e2
  obtain ⟨ox, od, J⟩ := exAt_inst I hA
  exact PySem.W.kia_one (kit_exc (ox := ox) (od := od) hC) I.kIn J e (fun z => nomatch z) fun tk => ⟨.bl b, H, I.tok tk, rfl, q⟩
/-! ### made, kept as a value -/
section
variable {X : Cx} {CX : CXT} {k : Nat} {C fI : Addr} {fd : FuncData} {ps ks : List Str} {sp : Sp} {x : Str} {p pos : Pos} {e : Expr} {es : List Expr} {kws : List Keyword} {ta tk : TA} {gV : List V → List V → List V}
theorem laid_exc {pins : List (Addr × Obj)} {σ : L2.St} {H : Hp} {hp : Heap} {g : Array GenState} {d : Drawn} {t : Nat} {os : OsState} (I : Inv X pins σ H ⟨hp, g, d, t, os⟩) (us : List Value) :
    Inv X pins σ (upd H (hp.objs.size + 1) (exo (hp.objs.size + 1) C none)) ⟨(hp.push (PySem.W.kdv_tup us)).push (PySem.HandSPX.excO C hp.objs.size), g, d, t, os⟩ :=
  I.laid (t' := t) (a := hp.objs.size + 1) (o := exo (hp.objs.size + 1) C none) (h' := (hp.push (PySem.W.kdv_tup us)).push (PySem.HandSPX.excO C hp.objs.size))
    (fun _ _ q => Heap.get?_push_of_some _ (Heap.get?_push_of_some _ q)) (Nat.le_succ _) (exo_ok (t1 := hp.objs.size) (by heap_get))
abbrev noX : XK := fun _ _ _ => False
/-- C(v, ..) as a value, C's own __init__ keeping sp -/
def tExMk (C : Addr) (sp : Sp) (ta : TA) : TE := fun σ H Q => ta σ H fun vs H1 => vs.length ≤ 1000 ∧ ∀ a, H1 a = none → sp (.ref a :: vs) (upd H1 a (exo a C none)) (fun v H2 => v = .non ∧ Q (.ref a) H2) noX
theorem pe_exMk (T : ExK X.K C fI) (F1 : FnOk X.prog X.w X.K X.mg X.base CX k fI fd ps sp) (hr : Room (k + 1) X.A) (hb : Binds X.K fd ps []) (hx : Passes CX X noX) (hg : Gl X x) (hm : X.mg x = some (.ref C)) (ha : PA X (e :: es) ta)
    (hdb : (x == ("__debug__" : Str)) = false := by decide) (he : starEach (e :: es) X.env = (false, eval e X.env) :: starEach es X.env := by rfl) (hpl : (backTo pos (starEach es X.env)).any (·.1) = false := by rfl) :
    PE X (.Call (.Name x p) (e :: es) [] pos) (tExMk C sp ta) := by
  refine ⟨fun pins s σ H Q I h => ?_⟩
  obtain ⟨nm, q, N, bs, bm, sn, sub, ab, col, dd, k0, k1, k2, k3, k5, hC, hbm⟩ := T.oex.cls
  refine wpAny_Call_Name_kw (ld_glob I hg hm (PySem.W.callWith_K (h₀ := X.base) I.ok.mod.kin T.oex.kC (thn (ha.run pos pins s σ H _ I h) fun us s1 ⟨vs, H1, I1, r1, hz, q1⟩ => ⟨I1.kIn, ?_⟩) he hpl) hdb)
  obtain ⟨hp, g, dr, tk, os⟩ := s1
  have hq := q1 (hp.objs.size + 1) (I1.hok.fresh (Nat.le_succ _))
  have I2 := laid_exc (C := C) I1 us
  have r2 : Vals (V.ref (hp.objs.size + 1) :: vs) (Value.ref (hp.objs.size + 1) :: us) := .cons rfl r1
  have hl : (Value.ref (hp.objs.size + 1) :: us).length = ps.length := r2.length.symm.trans (F1.len _ _ _ _ hq)
  have hus : us.length ≤ sizeLine := by rw [← Paired.length r1, sizeLine_eq]; omega
  show wpAny _ _ (call (.ref C) us) _ _ _
  refine wpAny_call (PySem.HandSPX.call_own F.excBase_ValueError (fun Y => PySem.HandSPX.refsVE_contains Y bm hbm) (I1.kIn _ _ hC) (PySem.W.looks_findIn I1.kIn T.iC) (fun self => PySem.W.bind_fn I1.kIn self T.tI) hus
    (codeAny_mono (F1.run _ X.stack _ _ ⟨Value.ref (hp.objs.size + 1) :: us, []⟩ (Value.ref (hp.objs.size + 1) :: us) _ _ noX (hr.make C us []) (I2.env0.make C us []) (by have z := hb _ (Value.ref (hp.objs.size + 1) :: us) I2.kIn (by simpa using hl); simpa using z) r2 hq) fun r s' hq' => ?_))
  cases r with
  | error er => exact hx pins σ _ _ er s' I2 hq'
  | ok fl =>
    cases fl with
    | ret u =>
      obtain ⟨v, H3, I3, rv, rfl, q2⟩ := I2.after hq'
      exact ⟨rv, .ref (hp.objs.size + 1), H3, I3, rfl, q2⟩
    | next => exact False.elim hq'
    | brk => exact False.elim hq'
    | cont => exact False.elim hq'
/-- C() -/
def tExMk0 (C : Addr) (sp : Sp) : TE := fun _ H Q => ∀ a, H a = none → sp [.ref a] (upd H a (exo a C none)) (fun v H2 => v = .non ∧ Q (.ref a) H2) noX
theorem pe_exMk0 (T : ExK X.K C fI) (F1 : FnOk X.prog X.w X.K X.mg X.base CX k fI fd ps sp) (hr : Room (k + 1) X.A) (hb : Binds X.K fd ps []) (hx : Passes CX X noX) (hg : Gl X x) (hm : X.mg x = some (.ref C))
    (hdb : (x == ("__debug__" : Str)) = false := by decide) : PE X (.Call (.Name x p) [] [] pos) (tExMk0 C sp) := by
  refine ⟨fun pins s σ H Q I h => ?_⟩
  obtain ⟨nm, q, N, bs, bm, sn, sub, ab, col, dd, k0, k1, k2, k3, k5, hC, hbm⟩ := T.oex.cls
  refine wpAny_Call_Name_kw (ld_glob I hg hm (PySem.W.callWith_K0 I.kIn T.oex.kC ?_) hdb)
  obtain ⟨hp, g, dr, tk, os⟩ := s
  have hq := h (hp.objs.size + 1) (I.hok.fresh (Nat.le_succ _))
  have I2 := laid_exc (C := C) I []
  have r2 : Vals [V.ref (hp.objs.size + 1)] [Value.ref (hp.objs.size + 1)] := .cons rfl .nil
  have hl : [Value.ref (hp.objs.size + 1)].length = ps.length := r2.length.symm.trans (F1.len _ _ _ _ hq)
  show wpAny _ _ (call (.ref C) []) _ _ _
  refine wpAny_call (PySem.HandSPX.call_own F.excBase_ValueError (fun Y => PySem.HandSPX.refsVE_contains Y bm hbm) (I.kIn _ _ hC) (PySem.W.looks_findIn I.kIn T.iC) (fun self => PySem.W.bind_fn I.kIn self T.tI) (by decide)
    (codeAny_mono (F1.run _ X.stack _ _ ⟨[Value.ref (hp.objs.size + 1)], []⟩ [Value.ref (hp.objs.size + 1)] _ _ noX (hr.make C [] []) (I2.env0.make C [] []) (by have z := hb _ [Value.ref (hp.objs.size + 1)] I2.kIn (by simpa using hl); simpa using z) r2 hq) fun r s' hq' => ?_))
  cases r with
  | error er => exact hx pins σ _ _ er s' I2 hq'
  | ok fl =>
    cases fl with
    | ret u =>
      obtain ⟨v, H3, I3, rv, rfl, q2⟩ := I2.after hq'
      exact ⟨rv, .ref (hp.objs.size + 1), H3, I3, rfl, q2⟩
    | next => exact False.elim hq'
    | brk => exact False.elim hq'
    | cont => exact False.elim hq'
/-- C(k = v, ..) -/
def tExMkK (n : Nat) (C : Addr) (sp : Sp) (gV : List V → List V → List V) (tk : TA) : TE := fun σ H Q => tk σ H fun zs H1 => zs.length = n ∧ ∀ a, H1 a = none → sp (gV [.ref a] zs) (upd H1 a (exo a C none)) (fun v H2 => v = .non ∧ Q (.ref a) H2) noX
theorem pe_exMkK (T : ExK X.K C fI) (F1 : FnOk X.prog X.w X.K X.mg X.base CX k fI fd ps sp) (hr : Room (k + 1) X.A) (hb : ∃ g, KBn X.K fd ps 1 ks g gV) (hx : Passes CX X noX) (hg : Gl X x) (hm : X.mg x = some (.ref C)) (hkw : PK X kws tk)
    (hall : (backToKw pos (keywordEach kws X.env)).all (·.1.isSome) = true := by rfl) (hks : (backToKw pos (keywordEach kws X.env)).filterMap (·.1) = ks := by rfl)
    (hdb : (x == ("__debug__" : Str)) = false := by decide) (hpl : ((backTo pos (starEach [] X.env)).any (·.1) || (backToKw pos (keywordEach kws X.env)).any (·.1.isNone)) = false := by rfl) :
    PE X (.Call (.Name x p) [] kws pos) (tExMkK ks.length C sp gV tk) := by
  obtain ⟨g', hb⟩ := hb
  refine ⟨fun pins s σ H Q I h => ?_⟩
  obtain ⟨nm, q, N, bs, bm, sn, sub, ab, col, dd, k0, k1, k2, k3, k5, hC, hbm⟩ := T.oex.cls
  refine wpAny_Call_Name_kw (ld_glob I hg hm (PySem.W.callWith_KW0 (h₀ := X.base) I.ok.mod.kin T.oex.kC hall (thn (hkw.run pos pins s σ H _ I h) fun ws s1 ⟨zs, H1, I1, rz, l2, q1⟩ => ⟨I1.kIn, ?_⟩) hpl) hdb)
  rw [hks]
  obtain ⟨hp, g, dr, tk, os⟩ := s1
  have hq := q1 (hp.objs.size + 1) (I1.hok.fresh (Nat.le_succ _))
  have I2 := laid_exc (C := C) I1 []
  have r2 : Vals [V.ref (hp.objs.size + 1)] [Value.ref (hp.objs.size + 1)] := .cons rfl .nil
  show wpAny _ _ (call (.ref C) [] (ks.zip ws)) _ _ _
  refine wpAny_call (call_kw F.excBase_ValueError (fun Y => PySem.HandSPX.refsVE_contains Y bm hbm) (I1.kIn _ _ hC) (PySem.W.looks_findIn I1.kIn T.iC) (fun self => PySem.W.bind_fn I1.kIn self T.tI)
    (codeAny_mono (F1.run _ X.stack _ _ ⟨[Value.ref (hp.objs.size + 1)], ks.zip ws⟩ (g' [Value.ref (hp.objs.size + 1)] ws) _ _ noX (hr.make C [] (ks.zip ws)) (I2.env0.make C [] (ks.zip ws)) (hb.to _ [Value.ref (hp.objs.size + 1)] ws I2.kIn rfl (rz.length.symm.trans l2)) (hb.rel r2 rz) hq) fun r s' hq' => ?_))
  cases r with
  | error er => exact hx pins σ _ _ er s' I2 hq'
  | ok fl =>
    cases fl with
    | ret u =>
      obtain ⟨v, H3, I3, rv, rfl, q2⟩ := I2.after hq'
      exact ⟨rv, .ref (hp.objs.size + 1), H3, I3, rfl, q2⟩
    | next => exact False.elim hq'
    | brk => exact False.elim hq'
    | cont => exact False.elim hq'
/-- .. its keywords, the parameters' order by gV -/
theorem kbE {K : PySem.W.Frag} {x qual : Str} {params : Arguments} {body : List Stmt} {scope : Scope} {kws : List (Str × V)} {f : Addr} {fd : FuncData} (F : FunD K x qual params body scope [] kws f fd) (g : {α : Type} → List α → List α → List α)
    (h : ∀ (kV doc pm : Value) (an : Option Addr) (cdv ct : Value) (us ws : List Value), us.length = 1 → ws.length = ks.length → bindArgs (PySem.W.fnOf x qual params body scope .none kV doc pm an cdv ct) ⟨us, ks.zip ws⟩ = pure (ps.zip (g us ws)))
    (hrel : ∀ {vs : List V} {us : List Value} {zs : List V} {ws : List Value}, Vals vs us → Vals zs ws → Vals (g vs zs) (g us ws)) :
    ∃ g', KBn K fd ps 1 ks g' (fun vs zs => g vs zs) := by
  obtain ⟨oc, od, dV, kV, doc, pm, an, cdv, ct, osl, rfl, lk, hcd, hD, hK⟩ := F.ex
  rcases hD with ⟨_, rfl⟩ | ⟨e, _⟩
  · exact ⟨fun us ws => g us ws, ⟨fun s us ws X l1 l2 => .of_eq (h kV doc pm an cdv ct us ws l1 l2), hrel⟩⟩
  · exact absurd rfl e
/-- e.f, e an exception kept as a value -/
def tExF (K : PySem.W.Frag) (f : Str) (te : TE) : TE := fun σ H Q => te σ H fun x H1 => ∃ (a C d : Addr) (fs : List (Str × V)) (v : V), x = .ref a ∧ XfC K C ∧ PySem.W.findIn K (.ref C) f = some none ∧ H1 a = some (exo a C (some d)) ∧ H1 d = some (exd d fs) ∧ fs.lookup f = some v ∧ Q v H1
theorem pe_exF {o : Expr} {te : TE} {n : Str} (ho : PE X o te) (hb : attributeBase o n X.env (eval o X.env) = eval o X.env := by rfl) : PE X (.Attribute o n pos) (tExF X.K n te) := by
  refine ⟨fun pins s σ H Q I h => attr_of hb (thn (ho.run pins s σ H _ I h) fun u s1 hh => ?_)⟩
  obtain ⟨x, H1, I1, rx, a, C, d, fs, v, ex, T, hno, ha, hd, l, q⟩ := hh
  subst ex
  obtain rfl : u = Value.ref a := rx
  obtain ⟨t1, hoe⟩ := exo_at I1.hok ha
  obtain ⟨mA, hns, rel⟩ := exd_at I1.hok hd
  obtain ⟨od, hod, hl⟩ := lookIn_ns hns
  obtain ⟨u, hu, ru⟩ := RelO.some_of (v := v) (o := mA n) (by rw [← l]; exact rel n)
  have J : PySem.W.InstAt s1.heap a _ C (some od) := ⟨hoe, rfl, rfl, hod⟩
  exact HandSPX.exc_get I1.kIn J T.ga T.gg T.exC (PySem.W.findObj_own T.hdC hno rfl (by rw [hl, hu])) (handed_of ru) ⟨v, H1, I1.tok _, ru, q⟩
end
/-! ### a dict beside itself -/
def flatR (v : V) : Prop := flatB v = true ∨ ∃ a, v = .ref a
theorem eqAt_self {A : Around} {s : Shared} {v : V} {u u' : Value} (r : RelV v u) (r' : RelV v u') (f : flatR v) : SeqAt.EqAt A s u u' true := by
  rcases f with f | ⟨a, rfl⟩
  · exact eqAt_same r r' f
  · cases (show u = Value.ref a from r)
    cases (show u' = Value.ref a from r')
    exact SeqAt.EqAt.same _
theorem hits_self {κ : Type} [DecidableEq κ] {A : Around} {s : Shared} {kvs : List (κ × V)} {vb : List (κ × Value)} (rb : KV kvs vb) {js : List (κ × V)} {va : List (κ × Value)} (ra : KV js va) (hp : ∀ p ∈ js, valV kvs p.1 = some p.2 ∧ flatR p.2) : PySem.W.KeqHits A s vb va true := by
  unfold KV at ra
  induction ra with
  | nil => exact .nil
  | @cons p q ps qs h1 h2 ih =>
    obtain ⟨e, f⟩ := hp p List.mem_cons_self
    obtain ⟨z1, z2⟩ := h1
    obtain ⟨k, v⟩ := q
    obtain ⟨y, hy, ry⟩ := (show RelO (some p.2) (valueAt vb p.1) by rw [← e]; exact rb.val p.1).some_of
    rw [show p.1 = k from z1] at hy
    show PySem.W.KeqHits A s vb ((k, v) :: qs) (true && true)
    exact .hit hy (eqAt_self z2 ry f) (ih fun p' hm => hp p' (List.mem_cons_of_mem _ hm))
def rEqSelf : R2 := fun x y H Q => ∃ (a : Addr) (kvs : List (Key × V)), x = .ref a ∧ y = .ref a ∧ H a = some (.dK kvs) ∧ (kvs.map (·.1)).Nodup ∧ (∀ p ∈ kvs, flatR p.2) ∧ Q (.bl true) H
theorem op_eqSelf {X : Cx} (hu : X.A.units < cLine) : OpR X (compareOp .Eq) rEqSelf := by
  intro pins s σ H x y v u Q I rx ry h
  obtain ⟨a, kvs, rfl, rfl, ea, nd, fl, q⟩ := h
  obtain rfl : v = Value.ref a := rx
  obtain rfl : u = Value.ref a := ry
  obtain ⟨_, ya, va, ra, da⟩ := (show ObjOk X.prog X.w H s.heap a (.dK kvs) from I.hok a _ ea)
  exact PySem.W.keq_eq (knd := mixKind X.prog X.w) (r := true) ya ya da da hu (fun _ => hits_self ra ra fun p hp => ⟨val_nodup nd p hp, fl p hp⟩) (fin_bl I q (by simp))
/-! ### facts of several classes at once -/
def clsValB (K : PySem.W.Frag) (c : Value) (m : Str) (v : Value) : Bool := match PySem.W.findCls K c (.type "type") m with
  | some (.val u) => decide (u = v)
  | _ => false
theorem clsVal_of {K : PySem.W.Frag} {c : Value} {m : Str} {v : Value} (h : clsValB K c m v = true) : PySem.W.findCls K c (.type "type") m = some (.val v) := by
  unfold clsValB at h
  split at h
  · rename_i u e
    rw [e, of_decide_eq_true h]
  · cases h
/-- a class whose __init__ is that of another one -/
def exKB2 (K : PySem.W.Frag) (x y : Str) : Bool := exKB K x && decide (He.ma K (He.ga K x) "__init__" = He.ma K (He.ga K y) "__init__")
theorem exK2_of {K : PySem.W.Frag} {x y : Str} (h : exKB2 K x y = true) : ExK K (He.ga K x) (He.fAd K (y, some "__init__")) := by
  obtain ⟨h1, h2⟩ := He.ba h
  have z := exK_of h1
  rw [of_decide_eq_true h2] at z
  exact z
theorem all1_of {α : Type} {l : List α} {p : α → Prop} [DecidablePred p] (h : (l.all fun x => decide (p x)) = true) : ∀ x ∈ l, p x := fun x m => of_decide_eq_true (List.all_eq_true.mp h x m)
theorem all2_of {α : Type} {l : List α} {p : α → α → Prop} [∀ x y, Decidable (p x y)] (h : (l.all fun x => l.all fun y => decide (p x y)) = true) : ∀ x ∈ l, ∀ y ∈ l, p x y := fun x m y n => of_decide_eq_true (List.all_eq_true.mp (List.all_eq_true.mp h x m) y n)
def excCB (K : PySem.W.Frag) (D : Addr) : Bool := xfB K D && (decide (PySem.W.findIn K (.ref D) "__class__" = some (some (.builtin "object.__class__"))) && (decide (PySem.W.specialIn K (.builtin "object.__class__") "__get__" = some (some (.builtin "getset_descriptor.__get__"))) &&
  (decide (PySem.W.takesIn K (.builtin "object.__class__") = some true) && decide (PySem.W.mroIn K D (.type "object") = some true))))
theorem excC_of {K : PySem.W.Frag} {D : Addr} (h : excCB K D = true) : ExcC K D := by
  obtain ⟨h1, h⟩ := He.ba h
  obtain ⟨h2, h⟩ := He.ba h
  obtain ⟨h3, h⟩ := He.ba h
  obtain ⟨h4, h5⟩ := He.ba h
  have x := xfB_ok h1
  exact ⟨x.ga, x.gg, x.exC, x.hdC, of_decide_eq_true h2, of_decide_eq_true h3, of_decide_eq_true h4, of_decide_eq_true h5⟩
theorem allC_of {K : PySem.W.Frag} {l : List Str} (h : (l.all fun x => excCB K (He.ga K x)) = true) : ∀ x ∈ l, ExcC K (He.ga K x) := fun x m => excC_of (List.all_eq_true.mp h x m)
end Lt

set_option Elab.async false
set_option linter.all false
set_option maxRecDepth 100000
set_option maxHeartbeats 2000000
namespace Lt
open PySem PySem.Spec PyProof.Rows L2
/-! ### orderings that decline -/
section
open AutoSeq1 (wpAny_loadPart')
open PySem
theorem dec_none_lt (y C dy : Addr) :
    Meets (Builtin.«NoneType.__lt__» ⟨[.none, .ref y], []⟩) (fun _ R s => s.heap.get? y = some (PySem.W.instObj C dy) ∧ R (.ok (.ret .notImplemented)) s) :=
  .of_wp fun prog w A R s h => by obtain ⟨hp, g, d, tk, os⟩ := s; obtain ⟨hl, h⟩ := h; wp_walk using wpAny_loadPart' hl, wpAny_load hl; exact ⟨_, rfl, h⟩
theorem dec_str_lt (a : Str) (t : Tok) (y C dy : Addr) :
    Meets (Builtin.«str.__lt__» ⟨[.str a t, .ref y], []⟩) (fun _ R s => s.heap.get? y = some (PySem.W.instObj C dy) ∧ R (.ok (.ret .notImplemented)) s) :=
  .of_wp fun prog w A R s h => by obtain ⟨hp, g, d, tk, os⟩ := s; obtain ⟨hl, h⟩ := h; wp_walk using wpAny_loadPart' hl, wpAny_load hl; exact ⟨_, rfl, h⟩
theorem dec_dict_lt (l y C dy : Addr) (o : Obj) (es : Array DictEntry) (n : Nat) :
    Meets (Builtin.«dict.__lt__» ⟨[.ref l, .ref y], []⟩) (fun A R s => s.heap.get? l = some o ∧ o.cls = .type "dict" ∧ o.data = .dict es n ∧ s.heap.get? y = some (PySem.W.instObj C dy) ∧ (∀ M : Model, PySem.W.Looks M s.heap (PySem.isSubtype (.ref C) (.type "dict")) false) ∧ R (.ok (.ret .notImplemented)) s) :=
  .of_wp fun prog w A R s h => by
    obtain ⟨hp, g, d, tk, os⟩ := s; obtain ⟨hl, hc, hd, hy, hs, h⟩ := h
    have L1 : PySem.W.Looks (model prog w) hp (PySem.isSubtype (.ref C) (.type "dict")) false := hs _
    wp_walk using wpAny_loadPart' hl, wpAny_loadPart' hy, wpAny_load hl, wpAny_load hy, L1.here
    exact ⟨_, rfl, h⟩
theorem dec_list_lt (l y C dy : Addr) (items : Array Value) (n : Nat) (dd : Option Addr) (sl : Array (Option Value)) :
    Meets (Builtin.«list.__lt__» ⟨[.ref l, .ref y], []⟩) (fun A R s => s.heap.get? l = some { cls := .type "list", dict := dd, data := .seq items n, slots := sl } ∧ s.heap.get? y = some (PySem.W.instObj C dy) ∧ (∀ M : Model, PySem.W.Looks M s.heap (PySem.isSubtype (.ref C) (.type "list")) false) ∧ R (.ok (.ret .notImplemented)) s) :=
  .of_wp fun prog w A R s h => by
    obtain ⟨hp, g, d, tk, os⟩ := s; obtain ⟨hl, hy, hs, h⟩ := h
    have L1 : PySem.W.Looks (model prog w) hp (PySem.isSubtype (.ref C) (.type "list")) false := hs _
    wp_walk using wpAny_loadPart' hl, wpAny_loadPart' hy, wpAny_load hl, wpAny_load hy, L1.here
    exact ⟨_, rfl, h⟩
theorem dec_tuple_lt (l y C dy : Addr) (items : Array Value) (n : Nat) (dd : Option Addr) (sl : Array (Option Value)) :
    Meets (Builtin.«tuple.__lt__» ⟨[.ref l, .ref y], []⟩) (fun A R s => s.heap.get? l = some { cls := .type "tuple", dict := dd, data := .seq items n, slots := sl } ∧ s.heap.get? y = some (PySem.W.instObj C dy) ∧ (∀ M : Model, PySem.W.Looks M s.heap (PySem.isSubtype (.ref C) (.type "tuple")) false) ∧ R (.ok (.ret .notImplemented)) s) :=
  .of_wp fun prog w A R s h => by
    obtain ⟨hp, g, d, tk, os⟩ := s; obtain ⟨hl, hy, hs, h⟩ := h
    have L1 : PySem.W.Looks (model prog w) hp (PySem.isSubtype (.ref C) (.type "tuple")) false := hs _
    wp_walk using wpAny_loadPart' hl, wpAny_loadPart' hy, wpAny_load hl, wpAny_load hy, L1.here
    exact ⟨_, rfl, h⟩
theorem dec_none_le (y C dy : Addr) :
    Meets (Builtin.«NoneType.__le__» ⟨[.none, .ref y], []⟩) (fun _ R s => s.heap.get? y = some (PySem.W.instObj C dy) ∧ R (.ok (.ret .notImplemented)) s) :=
  .of_wp fun prog w A R s h => by obtain ⟨hp, g, d, tk, os⟩ := s; obtain ⟨hl, h⟩ := h; wp_walk using wpAny_loadPart' hl, wpAny_load hl; exact ⟨_, rfl, h⟩
theorem dec_str_le (a : Str) (t : Tok) (y C dy : Addr) :
    Meets (Builtin.«str.__le__» ⟨[.str a t, .ref y], []⟩) (fun _ R s => s.heap.get? y = some (PySem.W.instObj C dy) ∧ R (.ok (.ret .notImplemented)) s) :=
  .of_wp fun prog w A R s h => by obtain ⟨hp, g, d, tk, os⟩ := s; obtain ⟨hl, h⟩ := h; wp_walk using wpAny_loadPart' hl, wpAny_load hl; exact ⟨_, rfl, h⟩
theorem dec_dict_le (l y C dy : Addr) (o : Obj) (es : Array DictEntry) (n : Nat) :
    Meets (Builtin.«dict.__le__» ⟨[.ref l, .ref y], []⟩) (fun A R s => s.heap.get? l = some o ∧ o.cls = .type "dict" ∧ o.data = .dict es n ∧ s.heap.get? y = some (PySem.W.instObj C dy) ∧ (∀ M : Model, PySem.W.Looks M s.heap (PySem.isSubtype (.ref C) (.type "dict")) false) ∧ R (.ok (.ret .notImplemented)) s) :=
  .of_wp fun prog w A R s h => by
    obtain ⟨hp, g, d, tk, os⟩ := s; obtain ⟨hl, hc, hd, hy, hs, h⟩ := h
    have L1 : PySem.W.Looks (model prog w) hp (PySem.isSubtype (.ref C) (.type "dict")) false := hs _
    wp_walk using wpAny_loadPart' hl, wpAny_loadPart' hy, wpAny_load hl, wpAny_load hy, L1.here
    exact ⟨_, rfl, h⟩
theorem dec_list_le (l y C dy : Addr) (items : Array Value) (n : Nat) (dd : Option Addr) (sl : Array (Option Value)) :
    Meets (Builtin.«list.__le__» ⟨[.ref l, .ref y], []⟩) (fun A R s => s.heap.get? l = some { cls := .type "list", dict := dd, data := .seq items n, slots := sl } ∧ s.heap.get? y = some (PySem.W.instObj C dy) ∧ (∀ M : Model, PySem.W.Looks M s.heap (PySem.isSubtype (.ref C) (.type "list")) false) ∧ R (.ok (.ret .notImplemented)) s) :=
  .of_wp fun prog w A R s h => by
    obtain ⟨hp, g, d, tk, os⟩ := s; obtain ⟨hl, hy, hs, h⟩ := h
    have L1 : PySem.W.Looks (model prog w) hp (PySem.isSubtype (.ref C) (.type "list")) false := hs _
    wp_walk using wpAny_loadPart' hl, wpAny_loadPart' hy, wpAny_load hl, wpAny_load hy, L1.here
    exact ⟨_, rfl, h⟩
theorem dec_tuple_le (l y C dy : Addr) (items : Array Value) (n : Nat) (dd : Option Addr) (sl : Array (Option Value)) :
    Meets (Builtin.«tuple.__le__» ⟨[.ref l, .ref y], []⟩) (fun A R s => s.heap.get? l = some { cls := .type "tuple", dict := dd, data := .seq items n, slots := sl } ∧ s.heap.get? y = some (PySem.W.instObj C dy) ∧ (∀ M : Model, PySem.W.Looks M s.heap (PySem.isSubtype (.ref C) (.type "tuple")) false) ∧ R (.ok (.ret .notImplemented)) s) :=
  .of_wp fun prog w A R s h => by
    obtain ⟨hp, g, d, tk, os⟩ := s; obtain ⟨hl, hy, hs, h⟩ := h
    have L1 : PySem.W.Looks (model prog w) hp (PySem.isSubtype (.ref C) (.type "tuple")) false := hs _
    wp_walk using wpAny_loadPart' hl, wpAny_loadPart' hy, wpAny_load hl, wpAny_load hy, L1.here
    exact ⟨_, rfl, h⟩
theorem dec_none_gt (y C dy : Addr) :
    Meets (Builtin.«NoneType.__gt__» ⟨[.none, .ref y], []⟩) (fun _ R s => s.heap.get? y = some (PySem.W.instObj C dy) ∧ R (.ok (.ret .notImplemented)) s) :=
  .of_wp fun prog w A R s h => by obtain ⟨hp, g, d, tk, os⟩ := s; obtain ⟨hl, h⟩ := h; wp_walk using wpAny_loadPart' hl, wpAny_load hl; exact ⟨_, rfl, h⟩
theorem dec_str_gt (a : Str) (t : Tok) (y C dy : Addr) :
    Meets (Builtin.«str.__gt__» ⟨[.str a t, .ref y], []⟩) (fun _ R s => s.heap.get? y = some (PySem.W.instObj C dy) ∧ R (.ok (.ret .notImplemented)) s) :=
  .of_wp fun prog w A R s h => by obtain ⟨hp, g, d, tk, os⟩ := s; obtain ⟨hl, h⟩ := h; wp_walk using wpAny_loadPart' hl, wpAny_load hl; exact ⟨_, rfl, h⟩
theorem dec_dict_gt (l y C dy : Addr) (o : Obj) (es : Array DictEntry) (n : Nat) :
    Meets (Builtin.«dict.__gt__» ⟨[.ref l, .ref y], []⟩) (fun A R s => s.heap.get? l = some o ∧ o.cls = .type "dict" ∧ o.data = .dict es n ∧ s.heap.get? y = some (PySem.W.instObj C dy) ∧ (∀ M : Model, PySem.W.Looks M s.heap (PySem.isSubtype (.ref C) (.type "dict")) false) ∧ R (.ok (.ret .notImplemented)) s) :=
  .of_wp fun prog w A R s h => by
    obtain ⟨hp, g, d, tk, os⟩ := s; obtain ⟨hl, hc, hd, hy, hs, h⟩ := h
    have L1 : PySem.W.Looks (model prog w) hp (PySem.isSubtype (.ref C) (.type "dict")) false := hs _
    wp_walk using wpAny_loadPart' hl, wpAny_loadPart' hy, wpAny_load hl, wpAny_load hy, L1.here
    exact ⟨_, rfl, h⟩
theorem dec_list_gt (l y C dy : Addr) (items : Array Value) (n : Nat) (dd : Option Addr) (sl : Array (Option Value)) :
    Meets (Builtin.«list.__gt__» ⟨[.ref l, .ref y], []⟩) (fun A R s => s.heap.get? l = some { cls := .type "list", dict := dd, data := .seq items n, slots := sl } ∧ s.heap.get? y = some (PySem.W.instObj C dy) ∧ (∀ M : Model, PySem.W.Looks M s.heap (PySem.isSubtype (.ref C) (.type "list")) false) ∧ R (.ok (.ret .notImplemented)) s) :=
  .of_wp fun prog w A R s h => by
    obtain ⟨hp, g, d, tk, os⟩ := s; obtain ⟨hl, hy, hs, h⟩ := h
    have L1 : PySem.W.Looks (model prog w) hp (PySem.isSubtype (.ref C) (.type "list")) false := hs _
    wp_walk using wpAny_loadPart' hl, wpAny_loadPart' hy, wpAny_load hl, wpAny_load hy, L1.here
    exact ⟨_, rfl, h⟩
theorem dec_tuple_gt (l y C dy : Addr) (items : Array Value) (n : Nat) (dd : Option Addr) (sl : Array (Option Value)) :
    Meets (Builtin.«tuple.__gt__» ⟨[.ref l, .ref y], []⟩) (fun A R s => s.heap.get? l = some { cls := .type "tuple", dict := dd, data := .seq items n, slots := sl } ∧ s.heap.get? y = some (PySem.W.instObj C dy) ∧ (∀ M : Model, PySem.W.Looks M s.heap (PySem.isSubtype (.ref C) (.type "tuple")) false) ∧ R (.ok (.ret .notImplemented)) s) :=
  .of_wp fun prog w A R s h => by
    obtain ⟨hp, g, d, tk, os⟩ := s; obtain ⟨hl, hy, hs, h⟩ := h
    have L1 : PySem.W.Looks (model prog w) hp (PySem.isSubtype (.ref C) (.type "tuple")) false := hs _
    wp_walk using wpAny_loadPart' hl, wpAny_loadPart' hy, wpAny_load hl, wpAny_load hy, L1.here
    exact ⟨_, rfl, h⟩
theorem dec_none_ge (y C dy : Addr) :
    Meets (Builtin.«NoneType.__ge__» ⟨[.none, .ref y], []⟩) (fun _ R s => s.heap.get? y = some (PySem.W.instObj C dy) ∧ R (.ok (.ret .notImplemented)) s) :=
  .of_wp fun prog w A R s h => by obtain ⟨hp, g, d, tk, os⟩ := s; obtain ⟨hl, h⟩ := h; wp_walk using wpAny_loadPart' hl, wpAny_load hl; exact ⟨_, rfl, h⟩
theorem dec_str_ge (a : Str) (t : Tok) (y C dy : Addr) :
    Meets (Builtin.«str.__ge__» ⟨[.str a t, .ref y], []⟩) (fun _ R s => s.heap.get? y = some (PySem.W.instObj C dy) ∧ R (.ok (.ret .notImplemented)) s) :=
  .of_wp fun prog w A R s h => by obtain ⟨hp, g, d, tk, os⟩ := s; obtain ⟨hl, h⟩ := h; wp_walk using wpAny_loadPart' hl, wpAny_load hl; exact ⟨_, rfl, h⟩
theorem dec_dict_ge (l y C dy : Addr) (o : Obj) (es : Array DictEntry) (n : Nat) :
    Meets (Builtin.«dict.__ge__» ⟨[.ref l, .ref y], []⟩) (fun A R s => s.heap.get? l = some o ∧ o.cls = .type "dict" ∧ o.data = .dict es n ∧ s.heap.get? y = some (PySem.W.instObj C dy) ∧ (∀ M : Model, PySem.W.Looks M s.heap (PySem.isSubtype (.ref C) (.type "dict")) false) ∧ R (.ok (.ret .notImplemented)) s) :=
  .of_wp fun prog w A R s h => by
    obtain ⟨hp, g, d, tk, os⟩ := s; obtain ⟨hl, hc, hd, hy, hs, h⟩ := h
    have L1 : PySem.W.Looks (model prog w) hp (PySem.isSubtype (.ref C) (.type "dict")) false := hs _
    wp_walk using wpAny_loadPart' hl, wpAny_loadPart' hy, wpAny_load hl, wpAny_load hy, L1.here
    exact ⟨_, rfl, h⟩
theorem dec_list_ge (l y C dy : Addr) (items : Array Value) (n : Nat) (dd : Option Addr) (sl : Array (Option Value)) :
    Meets (Builtin.«list.__ge__» ⟨[.ref l, .ref y], []⟩) (fun A R s => s.heap.get? l = some { cls := .type "list", dict := dd, data := .seq items n, slots := sl } ∧ s.heap.get? y = some (PySem.W.instObj C dy) ∧ (∀ M : Model, PySem.W.Looks M s.heap (PySem.isSubtype (.ref C) (.type "list")) false) ∧ R (.ok (.ret .notImplemented)) s) :=
  .of_wp fun prog w A R s h => by
    obtain ⟨hp, g, d, tk, os⟩ := s; obtain ⟨hl, hy, hs, h⟩ := h
    have L1 : PySem.W.Looks (model prog w) hp (PySem.isSubtype (.ref C) (.type "list")) false := hs _
    wp_walk using wpAny_loadPart' hl, wpAny_loadPart' hy, wpAny_load hl, wpAny_load hy, L1.here
    exact ⟨_, rfl, h⟩
theorem dec_tuple_ge (l y C dy : Addr) (items : Array Value) (n : Nat) (dd : Option Addr) (sl : Array (Option Value)) :
    Meets (Builtin.«tuple.__ge__» ⟨[.ref l, .ref y], []⟩) (fun A R s => s.heap.get? l = some { cls := .type "tuple", dict := dd, data := .seq items n, slots := sl } ∧ s.heap.get? y = some (PySem.W.instObj C dy) ∧ (∀ M : Model, PySem.W.Looks M s.heap (PySem.isSubtype (.ref C) (.type "tuple")) false) ∧ R (.ok (.ret .notImplemented)) s) :=
  .of_wp fun prog w A R s h => by
    obtain ⟨hp, g, d, tk, os⟩ := s; obtain ⟨hl, hy, hs, h⟩ := h
    have L1 : PySem.W.Looks (model prog w) hp (PySem.isSubtype (.ref C) (.type "tuple")) false := hs _
    wp_walk using wpAny_loadPart' hl, wpAny_loadPart' hy, wpAny_load hl, wpAny_load hy, L1.here
    exact ⟨_, rfl, h⟩
end
section
variable {X : Cx} {C : Addr}
theorem declines_oth_lt (N : NoSub X.K C) : Declines X C .Lt IsOth := by
  rintro pins s σ H x u b dy I rx hx hb
  rcases hx with rfl | ⟨k, rfl⟩ | ⟨z, rfl⟩ | ⟨a, xs, rfl, ea⟩ | ⟨a, xs, rfl, ea⟩ | ⟨a, kvs, rfl, ea⟩
  · cases (show u = Value.none from rx)
    exact ⟨"NoneType", rfl, N.non, fun E Q' hq => wpAny_tryCompare_declines rfl F.slot_NoneType_lt (call_meets F.slot_NoneType_lt rfl F.entry_NoneType_lt (F.args_NoneType_lt_2 _ _) (dec_none_lt b C dy) ⟨hb, ⟨rfl, hq⟩⟩)⟩
  · cases (show u = Value.bool k from rx)
    exact ⟨"bool", rfl, N.bool, fun E Q' hq => wpAny_tryCompare_declines rfl F.slot_bool_lt (call_meets F.slot_bool_lt rfl F.entry_int_lt (F.args_int_lt_2 _ _) (dec_bool_lt k b C dy) ⟨hb, ⟨rfl, hq⟩⟩)⟩
  · obtain ⟨t, e⟩ := (show ∃ t, u = Value.str z t from rx)
    subst e
    exact ⟨"str", rfl, N.str, fun E Q' hq => wpAny_tryCompare_declines rfl F.slot_str_lt (call_meets F.slot_str_lt rfl F.entry_str_lt (F.args_str_lt_2 _ _) (dec_str_lt z t b C dy) ⟨hb, ⟨rfl, hq⟩⟩)⟩
  · cases (show u = Value.ref a from rx)
    obtain ⟨_, _, n, _, h1⟩ := (show ObjOk X.prog X.w H s.heap a (.lst xs) from I.hok a _ ea)
    have ht : s.TypeIs (.ref a) "list" := ⟨_, h1, rfl⟩
    exact ⟨"list", ht, N.list, fun E Q' hq => wpAny_tryCompare_declines ht F.slot_list_lt (call_meets F.slot_list_lt ht F.entry_list_lt (F.args_list_lt_2 _ _) (dec_list_lt a b C dy _ _ _ _) ⟨h1, hb, fun M => PySem.W.looks_subIn I.kIn N.list, ⟨rfl, hq⟩⟩)⟩
  · cases (show u = Value.ref a from rx)
    obtain ⟨_, _, _, o, h1, h2, n, h3⟩ := (show ObjOk X.prog X.w H s.heap a (.tup xs) from I.hok a _ ea)
    obtain ⟨oc, od, dt, sl⟩ := o
    have ht : s.TypeIs (.ref a) "tuple" := ⟨_, h1, h2⟩
    cases h2
    cases h3
    exact ⟨"tuple", ht, N.tuple, fun E Q' hq => wpAny_tryCompare_declines ht F.slot_tuple_lt (call_meets F.slot_tuple_lt ht F.entry_tuple_lt (F.args_tuple_lt_2 _ _) (dec_tuple_lt a b C dy _ _ _ _) ⟨h1, hb, fun M => PySem.W.looks_subIn I.kIn N.tuple, ⟨rfl, hq⟩⟩)⟩
  · cases (show u = Value.ref a from rx)
    obtain ⟨_, _, vs, _, o, es, ep, h1, h2, h3⟩ := (show ObjOk X.prog X.w H s.heap a (.dK kvs) from I.hok a _ ea)
    have ht : s.TypeIs (.ref a) "dict" := ⟨o, h1, h2.1⟩
    exact ⟨"dict", ht, N.dict, fun E Q' hq => wpAny_tryCompare_declines ht F.slot_dict_lt (call_meets F.slot_dict_lt ht F.entry_dict_lt (F.args_dict_lt_2 _ _) (dec_dict_lt a b C dy o es ep) ⟨h1, h2.1, (by first | exact h3 | exact h3.1), hb, fun M => PySem.W.looks_subIn I.kIn N.dict, ⟨rfl, hq⟩⟩)⟩
theorem declines_oth_le (N : NoSub X.K C) : Declines X C .LtE IsOth := by
  rintro pins s σ H x u b dy I rx hx hb
  rcases hx with rfl | ⟨k, rfl⟩ | ⟨z, rfl⟩ | ⟨a, xs, rfl, ea⟩ | ⟨a, xs, rfl, ea⟩ | ⟨a, kvs, rfl, ea⟩
  · cases (show u = Value.none from rx)
    exact ⟨"NoneType", rfl, N.non, fun E Q' hq => wpAny_tryCompare_declines rfl F.slot_NoneType_le (call_meets F.slot_NoneType_le rfl F.entry_NoneType_le (F.args_NoneType_le_2 _ _) (dec_none_le b C dy) ⟨hb, ⟨rfl, hq⟩⟩)⟩
  · cases (show u = Value.bool k from rx)
    exact ⟨"bool", rfl, N.bool, fun E Q' hq => wpAny_tryCompare_declines rfl F.slot_bool_le (call_meets F.slot_bool_le rfl F.entry_int_le (F.args_int_le_2 _ _) (dec_bool_le k b C dy) ⟨hb, ⟨rfl, hq⟩⟩)⟩
  · obtain ⟨t, e⟩ := (show ∃ t, u = Value.str z t from rx)
    subst e
    exact ⟨"str", rfl, N.str, fun E Q' hq => wpAny_tryCompare_declines rfl F.slot_str_le (call_meets F.slot_str_le rfl F.entry_str_le (F.args_str_le_2 _ _) (dec_str_le z t b C dy) ⟨hb, ⟨rfl, hq⟩⟩)⟩
  · cases (show u = Value.ref a from rx)
    obtain ⟨_, _, n, _, h1⟩ := (show ObjOk X.prog X.w H s.heap a (.lst xs) from I.hok a _ ea)
    have ht : s.TypeIs (.ref a) "list" := ⟨_, h1, rfl⟩
    exact ⟨"list", ht, N.list, fun E Q' hq => wpAny_tryCompare_declines ht F.slot_list_le (call_meets F.slot_list_le ht F.entry_list_le (F.args_list_le_2 _ _) (dec_list_le a b C dy _ _ _ _) ⟨h1, hb, fun M => PySem.W.looks_subIn I.kIn N.list, ⟨rfl, hq⟩⟩)⟩
  · cases (show u = Value.ref a from rx)
    obtain ⟨_, _, _, o, h1, h2, n, h3⟩ := (show ObjOk X.prog X.w H s.heap a (.tup xs) from I.hok a _ ea)
    obtain ⟨oc, od, dt, sl⟩ := o
    have ht : s.TypeIs (.ref a) "tuple" := ⟨_, h1, h2⟩
    cases h2
    cases h3
    exact ⟨"tuple", ht, N.tuple, fun E Q' hq => wpAny_tryCompare_declines ht F.slot_tuple_le (call_meets F.slot_tuple_le ht F.entry_tuple_le (F.args_tuple_le_2 _ _) (dec_tuple_le a b C dy _ _ _ _) ⟨h1, hb, fun M => PySem.W.looks_subIn I.kIn N.tuple, ⟨rfl, hq⟩⟩)⟩
  · cases (show u = Value.ref a from rx)
    obtain ⟨_, _, vs, _, o, es, ep, h1, h2, h3⟩ := (show ObjOk X.prog X.w H s.heap a (.dK kvs) from I.hok a _ ea)
    have ht : s.TypeIs (.ref a) "dict" := ⟨o, h1, h2.1⟩
    exact ⟨"dict", ht, N.dict, fun E Q' hq => wpAny_tryCompare_declines ht F.slot_dict_le (call_meets F.slot_dict_le ht F.entry_dict_le (F.args_dict_le_2 _ _) (dec_dict_le a b C dy o es ep) ⟨h1, h2.1, (by first | exact h3 | exact h3.1), hb, fun M => PySem.W.looks_subIn I.kIn N.dict, ⟨rfl, hq⟩⟩)⟩
theorem declines_oth_gt (N : NoSub X.K C) : Declines X C .Gt IsOth := by
  rintro pins s σ H x u b dy I rx hx hb
  rcases hx with rfl | ⟨k, rfl⟩ | ⟨z, rfl⟩ | ⟨a, xs, rfl, ea⟩ | ⟨a, xs, rfl, ea⟩ | ⟨a, kvs, rfl, ea⟩
  · cases (show u = Value.none from rx)
    exact ⟨"NoneType", rfl, N.non, fun E Q' hq => wpAny_tryCompare_declines rfl F.slot_NoneType_gt (call_meets F.slot_NoneType_gt rfl F.entry_NoneType_gt (F.args_NoneType_gt_2 _ _) (dec_none_gt b C dy) ⟨hb, ⟨rfl, hq⟩⟩)⟩
  · cases (show u = Value.bool k from rx)
    exact ⟨"bool", rfl, N.bool, fun E Q' hq => wpAny_tryCompare_declines rfl F.slot_bool_gt (call_meets F.slot_bool_gt rfl F.entry_int_gt (F.args_int_gt_2 _ _) (dec_bool_gt k b C dy) ⟨hb, ⟨rfl, hq⟩⟩)⟩
  · obtain ⟨t, e⟩ := (show ∃ t, u = Value.str z t from rx)
    subst e
    exact ⟨"str", rfl, N.str, fun E Q' hq => wpAny_tryCompare_declines rfl F.slot_str_gt (call_meets F.slot_str_gt rfl F.entry_str_gt (F.args_str_gt_2 _ _) (dec_str_gt z t b C dy) ⟨hb, ⟨rfl, hq⟩⟩)⟩
  · cases (show u = Value.ref a from rx)
    obtain ⟨_, _, n, _, h1⟩ := (show ObjOk X.prog X.w H s.heap a (.lst xs) from I.hok a _ ea)
    have ht : s.TypeIs (.ref a) "list" := ⟨_, h1, rfl⟩
    exact ⟨"list", ht, N.list, fun E Q' hq => wpAny_tryCompare_declines ht F.slot_list_gt (call_meets F.slot_list_gt ht F.entry_list_gt (F.args_list_gt_2 _ _) (dec_list_gt a b C dy _ _ _ _) ⟨h1, hb, fun M => PySem.W.looks_subIn I.kIn N.list, ⟨rfl, hq⟩⟩)⟩
  · cases (show u = Value.ref a from rx)
    obtain ⟨_, _, _, o, h1, h2, n, h3⟩ := (show ObjOk X.prog X.w H s.heap a (.tup xs) from I.hok a _ ea)
    obtain ⟨oc, od, dt, sl⟩ := o
    have ht : s.TypeIs (.ref a) "tuple" := ⟨_, h1, h2⟩
    cases h2
    cases h3
    exact ⟨"tuple", ht, N.tuple, fun E Q' hq => wpAny_tryCompare_declines ht F.slot_tuple_gt (call_meets F.slot_tuple_gt ht F.entry_tuple_gt (F.args_tuple_gt_2 _ _) (dec_tuple_gt a b C dy _ _ _ _) ⟨h1, hb, fun M => PySem.W.looks_subIn I.kIn N.tuple, ⟨rfl, hq⟩⟩)⟩
  · cases (show u = Value.ref a from rx)
    obtain ⟨_, _, vs, _, o, es, ep, h1, h2, h3⟩ := (show ObjOk X.prog X.w H s.heap a (.dK kvs) from I.hok a _ ea)
    have ht : s.TypeIs (.ref a) "dict" := ⟨o, h1, h2.1⟩
    exact ⟨"dict", ht, N.dict, fun E Q' hq => wpAny_tryCompare_declines ht F.slot_dict_gt (call_meets F.slot_dict_gt ht F.entry_dict_gt (F.args_dict_gt_2 _ _) (dec_dict_gt a b C dy o es ep) ⟨h1, h2.1, (by first | exact h3 | exact h3.1), hb, fun M => PySem.W.looks_subIn I.kIn N.dict, ⟨rfl, hq⟩⟩)⟩
theorem declines_oth_ge (N : NoSub X.K C) : Declines X C .GtE IsOth := by
  rintro pins s σ H x u b dy I rx hx hb
  rcases hx with rfl | ⟨k, rfl⟩ | ⟨z, rfl⟩ | ⟨a, xs, rfl, ea⟩ | ⟨a, xs, rfl, ea⟩ | ⟨a, kvs, rfl, ea⟩
  · cases (show u = Value.none from rx)
    exact ⟨"NoneType", rfl, N.non, fun E Q' hq => wpAny_tryCompare_declines rfl F.slot_NoneType_ge (call_meets F.slot_NoneType_ge rfl F.entry_NoneType_ge (F.args_NoneType_ge_2 _ _) (dec_none_ge b C dy) ⟨hb, ⟨rfl, hq⟩⟩)⟩
  · cases (show u = Value.bool k from rx)
    exact ⟨"bool", rfl, N.bool, fun E Q' hq => wpAny_tryCompare_declines rfl F.slot_bool_ge (call_meets F.slot_bool_ge rfl F.entry_int_ge (F.args_int_ge_2 _ _) (dec_bool_ge k b C dy) ⟨hb, ⟨rfl, hq⟩⟩)⟩
  · obtain ⟨t, e⟩ := (show ∃ t, u = Value.str z t from rx)
    subst e
    exact ⟨"str", rfl, N.str, fun E Q' hq => wpAny_tryCompare_declines rfl F.slot_str_ge (call_meets F.slot_str_ge rfl F.entry_str_ge (F.args_str_ge_2 _ _) (dec_str_ge z t b C dy) ⟨hb, ⟨rfl, hq⟩⟩)⟩
  · cases (show u = Value.ref a from rx)
    obtain ⟨_, _, n, _, h1⟩ := (show ObjOk X.prog X.w H s.heap a (.lst xs) from I.hok a _ ea)
    have ht : s.TypeIs (.ref a) "list" := ⟨_, h1, rfl⟩
    exact ⟨"list", ht, N.list, fun E Q' hq => wpAny_tryCompare_declines ht F.slot_list_ge (call_meets F.slot_list_ge ht F.entry_list_ge (F.args_list_ge_2 _ _) (dec_list_ge a b C dy _ _ _ _) ⟨h1, hb, fun M => PySem.W.looks_subIn I.kIn N.list, ⟨rfl, hq⟩⟩)⟩
  · cases (show u = Value.ref a from rx)
    obtain ⟨_, _, _, o, h1, h2, n, h3⟩ := (show ObjOk X.prog X.w H s.heap a (.tup xs) from I.hok a _ ea)
    obtain ⟨oc, od, dt, sl⟩ := o
    have ht : s.TypeIs (.ref a) "tuple" := ⟨_, h1, h2⟩
    cases h2
    cases h3
    exact ⟨"tuple", ht, N.tuple, fun E Q' hq => wpAny_tryCompare_declines ht F.slot_tuple_ge (call_meets F.slot_tuple_ge ht F.entry_tuple_ge (F.args_tuple_ge_2 _ _) (dec_tuple_ge a b C dy _ _ _ _) ⟨h1, hb, fun M => PySem.W.looks_subIn I.kIn N.tuple, ⟨rfl, hq⟩⟩)⟩
  · cases (show u = Value.ref a from rx)
    obtain ⟨_, _, vs, _, o, es, ep, h1, h2, h3⟩ := (show ObjOk X.prog X.w H s.heap a (.dK kvs) from I.hok a _ ea)
    have ht : s.TypeIs (.ref a) "dict" := ⟨o, h1, h2.1⟩
    exact ⟨"dict", ht, N.dict, fun E Q' hq => wpAny_tryCompare_declines ht F.slot_dict_ge (call_meets F.slot_dict_ge ht F.entry_dict_ge (F.args_dict_ge_2 _ _) (dec_dict_ge a b C dy o es ep) ⟨h1, h2.1, (by first | exact h3 | exact h3.1), hb, fun M => PySem.W.looks_subIn I.kIn N.dict, ⟨rfl, hq⟩⟩)⟩
end
end Lt

set_option Elab.async false
set_option linter.all false
set_option maxRecDepth 100000
set_option maxHeartbeats 2000000
namespace Lt
open PySem PySem.Spec PyProof.Rows L2
/-! ### a binary operator between an instance and a value of a built-in type that has no part in it -/
section
open PySem.W
variable {prog : Program} {w : World} {A : Around} {E : Value → Shared → Prop} {s : Shared} {K : Frag} {y C f g : Addr} {oy : Obj} {od : Option Obj} {a : Value} {T : String} {fo ro rc : Option Value}
def fillsT (fo ro : Option Value) : Bool := (fo.isSome && !isSeqSlot fo) || (ro.isSome && !isSeqSlot ro)
theorem binL_L {op : Operator} {Q : Value → Shared → Prop} (X : K.In s.heap) (I : InstAt s.heap y oy C od) (ha : Looks (model prog w) s.heap (typeOf a) (.type T)) (hc : selfFirst K C = true)
    (hs : findIn K (.ref C) (PySem.dunder op.info.2) = some (some (.ref f))) (hf : isFn K (.ref f) = true) (hs2 : findIn K (.ref C) (dunderR op.info.2) = some (some (.ref g)))
    (h1 : findIn K (.type T) (PySem.dunder op.info.2) = some fo) (h2 : findIn K (.type T) (dunderR op.info.2) = some ro) (hsub : subIn K (.type T) (.ref C) = some false)
    (h : wpAny (model prog w) A (call (.ref f) [.ref y, a]) (PySem.W.CmpBack Q) E s) : wpAny (model prog w) A (binaryOp op (.ref y) a) Q E s := by
  obtain ⟨cd, rest, hcd, hm⟩ := ksp_first hc
  rcases e : op.info with ⟨sym, nm⟩
  simp only [e] at hs hs2 h1 h2
  have step := ksp_try X I hs hf h
  have k5 := looks_subIn (M := model prog w) X hsub
  have k6 := ksp_inPy (M := model prog w) X hs hs2 (.inr ⟨g, rfl⟩)
  have k8 := looks_findIn (M := model prog w) X h2
  have k4 := ksp_fillsT (M := model prog w) X h1 h2
  have k3 := fills_K (M := model prog w) X hcd hm hs
  have k1 := I.type (M := model prog w)
  have ne : (Value.ref C == Value.type T) = false := by
    rw [Bool.eq_false_iff]
    intro q
    cases beq_iff_eq.mp q
  obtain ⟨hh, gg, d, tt, os⟩ := s
  have k7 : Looks (model prog w) hh (numberSlotInPython (.type T) nm) false := Looks.of_pure rfl
  generalize ((fo.isSome && !isSeqSlot fo) || (ro.isSome && !isSeqSlot ro)) = right at k4
  simp only [binaryOp, e]
  refine wpAny_holding (wpAny_bind ?_)
  unfold binaryOp1
  refine wpAny_bind (k1.at (wpAny_bind (ha.at (wpAny_bind (k3.at ?_)))))
  simp only [ne, Bool.false_eq_true, if_false]
  cases right
  all_goals
    ksp_lk
    refine wpAny_mono step (fun r s' z => ?_) fun _ _ z => z
    obtain ⟨v, rfl, q⟩ := z
    ksp_lk
    exact q
theorem binR_L {op : Operator} {Q : Value → Shared → Prop} (X : K.In s.heap) (I : InstAt s.heap y oy C od) (ha : Looks (model prog w) s.heap (typeOf a) (.type T)) (hc : selfFirst K C = true)
    (hs : findIn K (.ref C) (PySem.dunder op.info.2) = some (some (.ref g))) (hs2 : findIn K (.ref C) (dunderR op.info.2) = some (some (.ref f))) (hf : isFn K (.ref f) = true)
    (h1 : findIn K (.type T) (PySem.dunder op.info.2) = some fo) (h2 : findIn K (.type T) (dunderR op.info.2) = some ro) (h0 : fillsT fo ro = false) (hsub : subIn K (.ref C) (.type T) = some false)
    (h : wpAny (model prog w) A (call (.ref f) [.ref y, a]) (PySem.W.CmpBack Q) E s) : wpAny (model prog w) A (binaryOp op a (.ref y)) Q E s := by
  obtain ⟨cd, rest, hcd, hm⟩ := ksp_first hc
  rcases e : op.info with ⟨sym, nm⟩
  simp only [e] at hs hs2 h1 h2
  have step := ksp_try X I hs2 hf h
  have k5 := looks_subIn (M := model prog w) X hsub
  have k4 := ksp_fillsT (M := model prog w) X h1 h2
  have k3 := fills_K (M := model prog w) X hcd hm hs
  have k1 := I.type (M := model prog w)
  have ne : (Value.type T == Value.ref C) = false := by
    rw [Bool.eq_false_iff]
    intro q
    cases beq_iff_eq.mp q
  obtain ⟨hh, gg, d, tt, os⟩ := s
  have k7 : Looks (model prog w) hh (numberSlotInPython (.type T) nm) false := Looks.of_pure rfl
  rw [show ((fo.isSome && !isSeqSlot fo) || (ro.isSome && !isSeqSlot ro)) = false from h0] at k4
  simp only [binaryOp, e]
  refine wpAny_holding (wpAny_bind ?_)
  unfold binaryOp1
  refine wpAny_bind (ha.at (wpAny_bind (k1.at (wpAny_bind (k4.at ?_)))))
  simp only [ne, Bool.false_eq_true, if_false]
  ksp_lk
  refine wpAny_mono step (fun r s' z => ?_) fun _ _ z => z
  obtain ⟨v, rfl, q⟩ := z
  ksp_lk
  exact q
end
section
variable {X : Cx} {CX : CXT} {g g2 C : Addr} {n : Nat} {sp : Sp} {E : XK} {fd : FuncData} {ps : List Str}
def oddTs : List String := ["NoneType", "bool", "str", "list", "tuple", "dict"]
/-- decided of K: no built-in type of these has a part in the operator, but bool, and str in % -/
def oddB (K : PySem.W.Frag) (C : Addr) (op : Operator) : Bool := oddTs.all fun T => match PySem.W.findIn K (.type T) (PySem.dunder op.info.2), PySem.W.findIn K (.type T) (dunderR op.info.2) with
  | some fo, some ro => decide (PySem.W.subIn K (.type T) (.ref C) = some false) && (decide (PySem.W.subIn K (.ref C) (.type T) = some false) && (T == "bool" || (T == "str" && op.info.2 == "mod" || !fillsT fo ro)))
  | _, _ => false
theorem oddB_at {K : PySem.W.Frag} {C : Addr} {op : Operator} {T : String} (h : oddB K C op = true) (m : T ∈ oddTs) : ∃ fo ro, PySem.W.findIn K (.type T) (PySem.dunder op.info.2) = some fo ∧ PySem.W.findIn K (.type T) (dunderR op.info.2) = some ro ∧
    PySem.W.subIn K (.type T) (.ref C) = some false ∧ PySem.W.subIn K (.ref C) (.type T) = some false ∧ (T ≠ "bool" → (T = "str" → (op.info.2 == "mod") = false) → fillsT fo ro = false) := by
  have z := List.all_eq_true.mp h T m
  split at z
  · rename_i fo ro e1 e2
    obtain ⟨h1, z⟩ := He.ba z
    obtain ⟨h2, z⟩ := He.ba z
    refine ⟨fo, ro, e1, e2, of_decide_eq_true h1, of_decide_eq_true h2, fun a b => ?_⟩
    rw [Bool.or_eq_true, Bool.or_eq_true, Bool.and_eq_true] at z
    rcases z with z | ⟨z1, z2⟩ | z
    · exact absurd (beq_iff_eq.mp z) a
    · rw [b (beq_iff_eq.mp z1)] at z2
      cases z2
    · exact Bool.not_eq_true' _ ▸ z
  · cases z
theorem oth_ty {K : PySem.W.Frag} {H : Hp} {x : V} (h : IsOth x H) : ∃ T, T ∈ oddTs ∧ TyX K H x (.type T) ∧ (T = "bool" → ∃ b, x = .bl b) ∧ (T = "str" → ∃ z, x = .str z) := by
  rcases h with rfl | ⟨k, rfl⟩ | ⟨z, rfl⟩ | ⟨a, xs, rfl, ea⟩ | ⟨a, xs, rfl, ea⟩ | ⟨a, kvs, rfl, ea⟩
  · exact ⟨"NoneType", by decide, .base .non, fun e => absurd e (by decide), fun e => absurd e (by decide)⟩
  · exact ⟨"bool", by decide, .base (.bl k), fun _ => ⟨k, rfl⟩, fun e => absurd e (by decide)⟩
  · exact ⟨"str", by decide, .base (.str z), fun e => absurd e (by decide), fun _ => ⟨z, rfl⟩⟩
  · exact ⟨"list", by decide, .base (.lst ea), fun e => absurd e (by decide), fun e => absurd e (by decide)⟩
  · exact ⟨"tuple", by decide, .base (.tup ea), fun e => absurd e (by decide), fun e => absurd e (by decide)⟩
  · exact ⟨"dict", by decide, .base (.dK ea), fun e => absurd e (by decide), fun e => absurd e (by decide)⟩
/-- x op y, x an instance, y no number -/
def rBinLO (C : Addr) (sp : Sp) (E : XK) : R2 := fun x y H Q => ∃ a dx fs, x = .ref a ∧ H a = some (.ins C dx fs) ∧ IsOth y H ∧ sp [x, y] H Q E
theorem op_binLO {op : Operator} (B : BinOps X.K C op g g2) (O : oddB X.K C op = true) (F : FnOk X.prog X.w X.K X.mg X.base CX n g fd ps sp) (hb : Binds X.K fd ps []) (hr : Room n X.A) (hx : Passes CX X E) : OpR X (binaryOp op) (rBinLO C sp E) := by
  intro pins s σ H x y v u Q I rx ry h
  obtain ⟨a, dx, fs, rfl, ha, hy, q⟩ := h
  cases (show v = Value.ref a from rx)
  obtain ⟨mA, J, _⟩ := ins_get I.hok ha
  obtain ⟨od, J, _⟩ := J.look
  obtain ⟨T, hT, ty, _, _⟩ := oth_ty (K := X.K) hy
  obtain ⟨P, kx, hp, _⟩ := kit_of I ry ty
  obtain ⟨fo, ro, h1, h2, s1, s2, h0⟩ := oddB_at O hT
  refine binL_L I.kIn J (kx.ty _ _ I.kIn hp) B.first B.l B.fl B.r h1 h2 s1 ?_
  refine wpAny_mono (run_fn (vs := [.ref a, y]) (us := [.ref a, u]) F hr hb .nil hx I (.cons rfl (.cons ry .nil)) q) (fun w s' z => ?_) fun _ _ x => x
  obtain ⟨z', H', I', rz, qz⟩ := z
  exact SlX.cmpback rz ⟨z', H', I', rz, qz⟩
/-- .. and the other way round: the reflected def -/
def rBinRO (C : Addr) (isMod : Bool) (sp : Sp) (E : XK) : R2 := fun x y H Q => ∃ b dy fs, y = .ref b ∧ H b = some (.ins C dy fs) ∧ IsOth x H ∧ (isMod = true → ∀ z, x ≠ .str z) ∧ sp [y, x] H Q E
def DeclBB (op : Operator) : Prop := ∀ {prog : Program} {w : World} {A : Around} {E : Value → Shared → Prop} {s : Shared} (k : Bool) (b C dy : Addr), s.heap.get? b = some (PySem.W.instObj C dy) → ∀ Q' : Option Value → Shared → Prop, Q' none s →
  wpAny (model prog w) A (tryMethod (.bool k) (PySem.dunder op.info.2) (.ref b)) Q' E s
theorem op_binRO {op : Operator} {isMod : Bool} (hm : (op.info.2 == "mod") = isMod) (B : BinOps X.K C op g g2) (O : oddB X.K C op = true) (D : DeclBB op) (F : FnOk X.prog X.w X.K X.mg X.base CX n g2 fd ps sp) (hb : Binds X.K fd ps []) (hr : Room n X.A) (hx : Passes CX X E) :
    OpR X (binaryOp op) (rBinRO C isMod sp E) := by
  intro pins s σ H x y v u Q I rx ry h
  obtain ⟨b, dy, fs, rfl, hb', ho, hz, q⟩ := h
  cases (show u = Value.ref b from ry)
  obtain ⟨mA, J, _⟩ := ins_get I.hok hb'
  have hobj := J.obj
  obtain ⟨od, J, _⟩ := J.look
  obtain ⟨T, hT, ty, hbo, hst⟩ := oth_ty (K := X.K) ho
  obtain ⟨fo, ro, h1, h2, s1, s2, h0⟩ := oddB_at O hT
  have fin : wpAny (model X.prog X.w) X.A (call (.ref g2) [.ref b, v]) (PySem.W.CmpBack (EP X pins σ Q)) X.xe s := by
    refine wpAny_mono (run_fn (vs := [.ref b, x]) (us := [.ref b, v]) F hr hb .nil hx I (.cons rfl (.cons rx .nil)) q) (fun w s' z => ?_) fun _ _ x => x
    obtain ⟨z', H', I', rz, qz⟩ := z
    exact SlX.cmpback rz ⟨z', H', I', rz, qz⟩
  by_cases hb2 : T = "bool"
  · obtain ⟨k, rfl⟩ := hbo hb2
    subst hb2
    cases (show v = Value.bool k from rx)
    exact binR_K (T := "bool") I.kIn J rfl B.first B.l B.r B.fr h1 h2 s2 (D k b C dy hobj) fin
  · obtain ⟨P, kx, hp, _⟩ := kit_of I rx ty
    refine binR_L I.kIn J (kx.ty _ _ I.kIn hp) B.first B.l B.r B.fr h1 h2 (h0 hb2 fun e => ?_) s2 fin
    obtain ⟨z, rfl⟩ := hst e
    rw [hm]
    cases isMod with
    | false => rfl
    | true => exact absurd rfl (hz rfl z)
end
section
theorem decMB {prog : Program} {w : World} {A : Around} {E : Value → Shared → Prop} {s : Shared} {name : Str} {id : String} (S : Slot "bool" name id) (k : Bool) (b : Addr) (Q' : Option Value → Shared → Prop)
    (z : wpAny (model prog w) A (call (.builtin id) [.bool k, .ref b]) (fun v s' => v = .notImplemented ∧ Q' none s') E s) : wpAny (model prog w) A (tryMethod (.bool k) name (.ref b)) Q' E s := by
  unfold tryMethod
  refine wpAny_bind (wpAny_callSpecial?_slot (T := "bool") rfl S (wpAny_mono z (fun v s' h => ?_) fun _ _ e => e))
  obtain ⟨rfl, h⟩ := h
  exact wpAny_pure h
theorem declBB_add : DeclBB .Add := fun k b C dy hb Q' hq => decMB F.slot_bool_add k b Q' (call_meets F.slot_bool_add rfl F.entry_int_add (F.args_int_add_2 _ _) (dec_bool_add k b C dy) ⟨hb, rfl, hq⟩)
theorem declBB_sub : DeclBB .Sub := fun k b C dy hb Q' hq => decMB F.slot_bool_sub k b Q' (call_meets F.slot_bool_sub rfl F.entry_int_sub (F.args_int_sub_2 _ _) (dec_bool_sub k b C dy) ⟨hb, rfl, hq⟩)
theorem declBB_mul : DeclBB .Mult := fun k b C dy hb Q' hq => decMB F.slot_bool_mul k b Q' (call_meets F.slot_bool_mul rfl F.entry_int_mul (F.args_int_mul_2 _ _) (dec_bool_mul k b C dy) ⟨hb, rfl, hq⟩)
theorem declBB_floordiv : DeclBB .FloorDiv := fun k b C dy hb Q' hq => decMB F.slot_bool_floordiv k b Q' (call_meets F.slot_bool_floordiv rfl F.entry_int_floordiv (F.args_int_floordiv_2 _ _) (dec_bool_floordiv k b C dy) ⟨hb, rfl, hq⟩)
theorem declBB_mod : DeclBB .Mod := fun k b C dy hb Q' hq => decMB F.slot_bool_mod k b Q' (call_meets F.slot_bool_mod rfl F.entry_int_mod (F.args_int_mod_2 _ _) (dec_bool_mod k b C dy) ⟨hb, rfl, hq⟩)
end
end Lt

set_option Elab.async false
set_option linter.all false
set_option maxRecDepth 100000
set_option maxHeartbeats 2000000
namespace Lt
open PySem PySem.Spec PyProof.Rows L2
/-! ### defs with lambdas: the code object and its table are known -/
theorem okC {P : Program} {w : World} {K : PySem.W.Frag} {mg : Str → Option Value} {base : Heap} {CX : CXT} {k : Nat} {x qual : Str} {params : Arguments} {body : List Stmt} {scope : Scope} {dvs : List V} {kws : List (Str × V)} {p : He.Defn} {fd : FuncData} {N ps : List Str} {sp : Sp}
    (F : FunD K x qual params body scope dvs kws (He.fAd K p) fd) (S : FnScope N ps scope) (hl : ∀ vs H Q E, sp vs H Q E → vs.length = ps.length)
    (hb : ∀ (A : Around) (outer : List Env) (s : Shared) (H : Hp) (vs : List V) (Q : VK) (E : XK), Room k (A.deeper (envOfC qual scope s.heap.objs.size (He.fAd K p) (.ref (He.codeOf K p)))) → sp vs H Q E →
      ∃ t, PSs (cxOf CX P w K mg base N qual scope (He.fAd K p) (.ref (He.codeOf K p)) A outer s H E) body t ∧ t { nx := fun _ H' => Q .non H', rt := Q } (L2.start N vs) H) :
    FnOk P w K mg base CX (k + 1) (He.fAd K p) fd ps sp := by
  obtain ⟨oc, od, dV, kV, doc, pm, an, cdv, ct, osl, rfl, lk, hcd, hD, hK⟩ := F.ex
  obtain ⟨c, rfl⟩ := He.codeIn_ref hcd
  have e : He.codeOf K p = c := He.codeOf_eq lk rfl
  rw [e] at hb
  exact ⟨hl, fun A outer s H args us vs Q E hr e0 hbt r q => LamX.run_ofS lk hcd S hr e0 hbt r (hl _ _ _ _ q) fun hr' => hb A outer s H vs Q E hr' q⟩
/-! ### the Hook with tables -/
section
variable {fa : List He.Fa} {fs : List (PySem.W.Frag → Bool)} {fn : List He.DefD} {tf : List He.Defn} {K : PySem.W.Frag} {w : World} {h : Heap}
def allF (fs : List (PySem.W.Frag → Bool)) (K : PySem.W.Frag) : Bool := fs.all fun f => f K
theorem saysM_of (c : He.SaysX fa fn [] tf (allF fs) w h K) : SaysM fa fs fn K := by
  have e : He.obsD fa fn K = He.valD fn := congrArg (fun z : He.AlT => z.1) c.t
  have e1 : ((fa.all fun f => f.ok K) && fn.all fun d => d.ok K) = true := congrArg (fun z : He.AlD => z.1) e
  have e2 : (fn.map fun d => He.fnW K d.at_) = fn.map He.DefD.val := congrArg (fun z : He.AlD => z.2) e
  obtain ⟨h1, h2⟩ := He.ba e1
  have h3 : (fs.all fun f => f K) = true := c.more
  show (((fa.all fun f => f.ok K) && ((fs.all fun f => f K) && fn.all fun d => d.ok K), fn.map fun d => He.fnW K d.at_) : He.AlD) = (true, fn.map He.DefD.val)
  rw [h1, h2, h3, e2]
  rfl
/-- the code objects and their tables -/
def cts (tf : List He.Defn) (K : PySem.W.Frag) : List (Addr × Addr) := tf.map (He.cT K)
theorem cts_mem {p : Addr × Addr} (m : p ∈ cts tf K) : ∃ d ∈ tf, p = He.cT K d := by
  obtain ⟨d, hd, e⟩ := List.mem_map.mp m
  exact ⟨d, hd, e.symm⟩
theorem cts_empty (c : He.SaysX fa fn [] tf (allF fs) w h K) : ∀ p ∈ cts tf K, h.get? p.2 = some { cls := .none, data := .fields #[] } := fun p m => by
  obtain ⟨d, hd, rfl⟩ := cts_mem m
  exact c.empty d hd
theorem cts_out (c : He.SaysX fa fn [] tf (allF fs) w h K) : ∀ p ∈ cts tf K, K.lookup p.2 = none := fun p m => by
  obtain ⟨d, hd, rfl⟩ := cts_mem m
  exact c.out d hd
theorem cts_hd (X : K.In h) (c : He.SaysX fa fn [] tf (allF fs) w h K) : ∀ p ∈ cts tf K, PySem.W.CodeHd h p.1 p.2 := fun p m => by
  obtain ⟨d, hd, rfl⟩ := cts_mem m
  exact PySem.W.codeHd_of_K X (c.hd d hd)
end
end Lt

namespace Law
open PySem PySem.Spec PyProof.Rows L2 Lt
def top (i : Nat) : Stmt := PySem.Challenge.pw_looptimes_k04_spans_refused.main.body.getD i (.Pass ⟨0, 0, 0, 0⟩)
abbrev s_BadPart_init : Stmt := inClass (top 4) 0
theorem sc_BadPart_init : FnScope ["self", "part"] ["self", "part"] (defScope s_BadPart_init) := ⟨rfl, rfl, rfl, by decide +kernel, rfl, by decide +kernel, by decide +kernel⟩
abbrev s_is_integer : Stmt := top 6
theorem sc_is_integer : FnScope ["thing"] ["thing"] (defScope s_is_integer) := ⟨rfl, rfl, rfl, by decide +kernel, rfl, by decide +kernel, by decide +kernel⟩
abbrev s_Span_init : Stmt := inClass (top 8) 0
theorem sc_Span_init : FnScope ["self", "over", "under", "shared"] ["self", "over", "under"] (defScope s_Span_init) := ⟨rfl, rfl, rfl, by decide +kernel, rfl, by decide +kernel, by decide +kernel⟩
abbrev s_Span_add : Stmt := inClass (top 8) 1
theorem sc_Span_add : FnScope ["self", "other"] ["self", "other"] (defScope s_Span_add) := ⟨rfl, rfl, rfl, by decide +kernel, rfl, by decide +kernel, by decide +kernel⟩
abbrev s_Span_radd : Stmt := inClass (top 8) 2
theorem sc_Span_radd : FnScope ["self", "other"] ["self", "other"] (defScope s_Span_radd) := ⟨rfl, rfl, rfl, by decide +kernel, rfl, by decide +kernel, by decide +kernel⟩
abbrev s_Span_sub : Stmt := inClass (top 8) 3
theorem sc_Span_sub : FnScope ["self", "other"] ["self", "other"] (defScope s_Span_sub) := ⟨rfl, rfl, rfl, by decide +kernel, rfl, by decide +kernel, by decide +kernel⟩
abbrev s_Span_rsub : Stmt := inClass (top 8) 4
theorem sc_Span_rsub : FnScope ["self", "other"] ["self", "other"] (defScope s_Span_rsub) := ⟨rfl, rfl, rfl, by decide +kernel, rfl, by decide +kernel, by decide +kernel⟩
abbrev s_Span_mul : Stmt := inClass (top 8) 5
theorem sc_Span_mul : FnScope ["self", "other"] ["self", "other"] (defScope s_Span_mul) := ⟨rfl, rfl, rfl, by decide +kernel, rfl, by decide +kernel, by decide +kernel⟩
abbrev s_Span_rmul : Stmt := inClass (top 8) 6
theorem sc_Span_rmul : FnScope ["self", "other"] ["self", "other"] (defScope s_Span_rmul) := ⟨rfl, rfl, rfl, by decide +kernel, rfl, by decide +kernel, by decide +kernel⟩
abbrev s_Span_floordiv : Stmt := inClass (top 8) 7
theorem sc_Span_floordiv : FnScope ["self", "other"] ["self", "other"] (defScope s_Span_floordiv) := ⟨rfl, rfl, rfl, by decide +kernel, rfl, by decide +kernel, by decide +kernel⟩
abbrev s_Span_rfloordiv : Stmt := inClass (top 8) 8
theorem sc_Span_rfloordiv : FnScope ["self", "other"] ["self", "other"] (defScope s_Span_rfloordiv) := ⟨rfl, rfl, rfl, by decide +kernel, rfl, by decide +kernel, by decide +kernel⟩
abbrev s_Span_mod : Stmt := inClass (top 8) 9
theorem sc_Span_mod : FnScope ["self", "other"] ["self", "other"] (defScope s_Span_mod) := ⟨rfl, rfl, rfl, by decide +kernel, rfl, by decide +kernel, by decide +kernel⟩
abbrev s_Span_rmod : Stmt := inClass (top 8) 10
theorem sc_Span_rmod : FnScope ["self", "other"] ["self", "other"] (defScope s_Span_rmod) := ⟨rfl, rfl, rfl, by decide +kernel, rfl, by decide +kernel, by decide +kernel⟩
abbrev s_Span_eq : Stmt := inClass (top 8) 13
theorem sc_Span_eq : FnScope ["self", "other"] ["self", "other"] (defScope s_Span_eq) := ⟨rfl, rfl, rfl, by decide +kernel, rfl, by decide +kernel, by decide +kernel⟩
abbrev s_Span_lt : Stmt := inClass (top 8) 14
theorem sc_Span_lt : FnScope ["self", "other"] ["self", "other"] (defScope s_Span_lt) := ⟨rfl, rfl, rfl, by decide +kernel, rfl, by decide +kernel, by decide +kernel⟩
abbrev s_Span_le : Stmt := inClass (top 8) 15
theorem sc_Span_le : FnScope ["self", "other"] ["self", "other"] (defScope s_Span_le) := ⟨rfl, rfl, rfl, by decide +kernel, rfl, by decide +kernel, by decide +kernel⟩
abbrev s_Span_gt : Stmt := inClass (top 8) 16
theorem sc_Span_gt : FnScope ["self", "other"] ["self", "other"] (defScope s_Span_gt) := ⟨rfl, rfl, rfl, by decide +kernel, rfl, by decide +kernel, by decide +kernel⟩
abbrev s_Span_ge : Stmt := inClass (top 8) 17
theorem sc_Span_ge : FnScope ["self", "other"] ["self", "other"] (defScope s_Span_ge) := ⟨rfl, rfl, rfl, by decide +kernel, rfl, by decide +kernel, by decide +kernel⟩
abbrev s_floored : Stmt := top 9
theorem sc_floored : FnScope ["number", "over", "under"] ["number"] (defScope s_floored) := ⟨rfl, rfl, rfl, by decide +kernel, rfl, by decide +kernel, by decide +kernel⟩
abbrev s_plain : Stmt := top 10
theorem sc_plain : FnScope ["number", "over", "under"] ["number"] (defScope s_plain) := ⟨rfl, rfl, rfl, by decide +kernel, rfl, by decide +kernel, by decide +kernel⟩
abbrev s_halves : Stmt := top 11
theorem sc_halves : FnScope ["number"] ["number"] (defScope s_halves) := ⟨rfl, rfl, rfl, by decide +kernel, rfl, by decide +kernel, by decide +kernel⟩
abbrev s_sum : Stmt := top 12
theorem sc_sum : FnScope ["one", "two", "over", "under", "other_over", "other_under"] ["one", "two"] (defScope s_sum) := ⟨rfl, rfl, rfl, by decide +kernel, rfl, by decide +kernel, by decide +kernel⟩
abbrev s_difference : Stmt := top 13
theorem sc_difference : FnScope ["one", "two", "over", "under", "other_over", "other_under"] ["one", "two"] (defScope s_difference) := ⟨rfl, rfl, rfl, by decide +kernel, rfl, by decide +kernel, by decide +kernel⟩
abbrev s_product : Stmt := top 14
theorem sc_product : FnScope ["one", "two", "over", "under", "other_over", "other_under"] ["one", "two"] (defScope s_product) := ⟨rfl, rfl, rfl, by decide +kernel, rfl, by decide +kernel, by decide +kernel⟩
abbrev s_quotient : Stmt := top 15
theorem sc_quotient : FnScope ["one", "two", "over", "under", "other_over", "other_under"] ["one", "two"] (defScope s_quotient) := ⟨rfl, rfl, rfl, by decide +kernel, rfl, by decide +kernel, by decide +kernel⟩
abbrev s_remainder : Stmt := top 16
theorem sc_remainder : FnScope ["one", "two", "many", "over", "under", "other_over", "other_under"] ["one", "two"] (defScope s_remainder) := ⟨rfl, rfl, rfl, by decide +kernel, rfl, by decide +kernel, by decide +kernel⟩
abbrev s_gap : Stmt := top 17
theorem sc_gap : FnScope ["one", "two", "over", "under", "other_over", "other_under"] ["one", "two"] (defScope s_gap) := ⟨rfl, rfl, rfl, by decide +kernel, rfl, by decide +kernel, by decide +kernel⟩
abbrev s_l_fresh : Stmt := top 19
theorem sc_l_fresh : FnScope ["_law_script"] ["_law_script"] (defScope s_l_fresh) := ⟨rfl, rfl, rfl, by decide +kernel, rfl, by decide +kernel, by decide +kernel⟩
abbrev s_l_fill : Stmt := top 20
theorem sc_l_fill : FnScope ["_law_state", "_law_cells", "_law_nth", "_law_seed", "_law_k", "_law_prime", "_law_far"] ["_law_state"] (defScope s_l_fill) := ⟨rfl, rfl, rfl, by decide +kernel, rfl, by decide +kernel, by decide +kernel⟩
abbrev s_l_take : Stmt := top 21
theorem sc_l_take : FnScope ["_law_state", "_law_many", "_law_laps", "_law_digit"] ["_law_state", "_law_many"] (defScope s_l_take) := ⟨rfl, rfl, rfl, by decide +kernel, rfl, by decide +kernel, by decide +kernel⟩
abbrev s_l_one : Stmt := top 22
theorem sc_l_one : FnScope ["_law_state", "_law_things"] ["_law_state", "_law_things"] (defScope s_l_one) := ⟨rfl, rfl, rfl, by decide +kernel, rfl, by decide +kernel, by decide +kernel⟩
abbrev s_l_same : Stmt := top 23
theorem sc_l_same : FnScope ["_law_found", "_law_due", "_law_a", "_law_b"] ["_law_found", "_law_due"] (defScope s_l_same) := ⟨rfl, rfl, rfl, by decide +kernel, rfl, by decide +kernel, by decide +kernel⟩
abbrev s_l_low : Stmt := top 24
theorem sc_l_low : FnScope ["_law_top", "_law_low_here", "_law_one_here", "_law_other"] ["_law_top", "_law_low_here"] (defScope s_l_low) := ⟨rfl, rfl, rfl, by decide +kernel, rfl, by decide +kernel, by decide +kernel⟩
abbrev s_l_figure : Stmt := top 25
theorem sc_l_figure : FnScope ["_law_state", "_law_great"] ["_law_state"] (defScope s_l_figure) := ⟨rfl, rfl, rfl, by decide +kernel, rfl, by decide +kernel, by decide +kernel⟩
abbrev s_l_fraction : Stmt := top 26
theorem sc_l_fraction : FnScope ["_law_state"] ["_law_state"] (defScope s_l_fraction) := ⟨rfl, rfl, rfl, by decide +kernel, rfl, by decide +kernel, by decide +kernel⟩
abbrev s_l_odd : Stmt := top 27
theorem sc_l_odd : FnScope ["_law_state"] ["_law_state"] (defScope s_l_odd) := ⟨rfl, rfl, rfl, by decide +kernel, rfl, by decide +kernel, by decide +kernel⟩
abbrev s_l_tried : Stmt := top 28
theorem sc_l_tried : FnScope ["_law_ask", "_law_found", "e"] ["_law_ask"] (defScope s_l_tried) := ⟨rfl, rfl, rfl, by decide +kernel, rfl, by decide +kernel, by decide +kernel⟩
abbrev s_l_behind : Stmt := top 29
theorem sc_l_behind : FnScope ["_law_a", "_law_x", "_law_found"] ["_law_a", "_law_x"] (defScope s_l_behind) := ⟨rfl, rfl, rfl, by decide +kernel, rfl, by decide +kernel, by decide +kernel⟩
abbrev s_l_ahead : Stmt := top 30
theorem sc_l_ahead : FnScope ["_law_a", "_law_x", "_law_found"] ["_law_a", "_law_x"] (defScope s_l_ahead) := ⟨rfl, rfl, rfl, by decide +kernel, rfl, by decide +kernel, by decide +kernel⟩
abbrev s_l_is_refused : Stmt := top 31
theorem sc_l_is_refused : FnScope ["_law_a", "_law_zero", "_law_found", "_law_bare", "_law_y"] ["_law_a"] (defScope s_l_is_refused) := ⟨rfl, rfl, rfl, by decide +kernel, rfl, by decide +kernel, by decide +kernel⟩
abbrev s_law : Stmt := top 32
theorem sc_law : FnScope ["_law_script", "_law_state", "_law_turn", "_law_x", "_law_odd_here", "_law_strange", "_law_a", "_law_found", "_law_due"] ["_law_script"] (defScope s_law) := ⟨rfl, rfl, rfl, by decide +kernel, rfl, by decide +kernel, by decide +kernel⟩
def gSpanK {α : Type} (vs ds zs : List α) : List α := match vs, zs with
  | [a], [u, o] => [a, o, u]
  | _, _ => []
def d_BadPart_init : He.DefD := ⟨("BadPart", some "__init__"), "__init__", "BadPart.__init__", defArgs s_BadPart_init, defBody s_BadPart_init, defScope s_BadPart_init, [], []⟩
def d_is_integer : He.DefD := ⟨("is_integer", none), "is_integer", "is_integer", defArgs s_is_integer, defBody s_is_integer, defScope s_is_integer, [], []⟩
def d_Span_init : He.DefD := ⟨("Span", some "__init__"), "__init__", "Span.__init__", defArgs s_Span_init, defBody s_Span_init, defScope s_Span_init, [.int 1], []⟩
def d_Span_add : He.DefD := ⟨("Span", some "__add__"), "__add__", "Span.__add__", defArgs s_Span_add, defBody s_Span_add, defScope s_Span_add, [], []⟩
def d_Span_radd : He.DefD := ⟨("Span", some "__radd__"), "__radd__", "Span.__radd__", defArgs s_Span_radd, defBody s_Span_radd, defScope s_Span_radd, [], []⟩
def d_Span_sub : He.DefD := ⟨("Span", some "__sub__"), "__sub__", "Span.__sub__", defArgs s_Span_sub, defBody s_Span_sub, defScope s_Span_sub, [], []⟩
def d_Span_rsub : He.DefD := ⟨("Span", some "__rsub__"), "__rsub__", "Span.__rsub__", defArgs s_Span_rsub, defBody s_Span_rsub, defScope s_Span_rsub, [], []⟩
def d_Span_mul : He.DefD := ⟨("Span", some "__mul__"), "__mul__", "Span.__mul__", defArgs s_Span_mul, defBody s_Span_mul, defScope s_Span_mul, [], []⟩
def d_Span_rmul : He.DefD := ⟨("Span", some "__rmul__"), "__rmul__", "Span.__rmul__", defArgs s_Span_rmul, defBody s_Span_rmul, defScope s_Span_rmul, [], []⟩
def d_Span_floordiv : He.DefD := ⟨("Span", some "__floordiv__"), "__floordiv__", "Span.__floordiv__", defArgs s_Span_floordiv, defBody s_Span_floordiv, defScope s_Span_floordiv, [], []⟩
def d_Span_rfloordiv : He.DefD := ⟨("Span", some "__rfloordiv__"), "__rfloordiv__", "Span.__rfloordiv__", defArgs s_Span_rfloordiv, defBody s_Span_rfloordiv, defScope s_Span_rfloordiv, [], []⟩
def d_Span_mod : He.DefD := ⟨("Span", some "__mod__"), "__mod__", "Span.__mod__", defArgs s_Span_mod, defBody s_Span_mod, defScope s_Span_mod, [], []⟩
def d_Span_rmod : He.DefD := ⟨("Span", some "__rmod__"), "__rmod__", "Span.__rmod__", defArgs s_Span_rmod, defBody s_Span_rmod, defScope s_Span_rmod, [], []⟩
def d_Span_eq : He.DefD := ⟨("Span", some "__eq__"), "__eq__", "Span.__eq__", defArgs s_Span_eq, defBody s_Span_eq, defScope s_Span_eq, [], []⟩
def d_Span_lt : He.DefD := ⟨("Span", some "__lt__"), "__lt__", "Span.__lt__", defArgs s_Span_lt, defBody s_Span_lt, defScope s_Span_lt, [], []⟩
def d_Span_le : He.DefD := ⟨("Span", some "__le__"), "__le__", "Span.__le__", defArgs s_Span_le, defBody s_Span_le, defScope s_Span_le, [], []⟩
def d_Span_gt : He.DefD := ⟨("Span", some "__gt__"), "__gt__", "Span.__gt__", defArgs s_Span_gt, defBody s_Span_gt, defScope s_Span_gt, [], []⟩
def d_Span_ge : He.DefD := ⟨("Span", some "__ge__"), "__ge__", "Span.__ge__", defArgs s_Span_ge, defBody s_Span_ge, defScope s_Span_ge, [], []⟩
def d_floored : He.DefD := ⟨("floored", none), "floored", "floored", defArgs s_floored, defBody s_floored, defScope s_floored, [], []⟩
def d_plain : He.DefD := ⟨("plain", none), "plain", "plain", defArgs s_plain, defBody s_plain, defScope s_plain, [], []⟩
def d_halves : He.DefD := ⟨("_halves", none), "_halves", "_halves", defArgs s_halves, defBody s_halves, defScope s_halves, [], []⟩
def d_sum : He.DefD := ⟨("_sum", none), "_sum", "_sum", defArgs s_sum, defBody s_sum, defScope s_sum, [], []⟩
def d_difference : He.DefD := ⟨("_difference", none), "_difference", "_difference", defArgs s_difference, defBody s_difference, defScope s_difference, [], []⟩
def d_product : He.DefD := ⟨("_product", none), "_product", "_product", defArgs s_product, defBody s_product, defScope s_product, [], []⟩
def d_quotient : He.DefD := ⟨("_quotient", none), "_quotient", "_quotient", defArgs s_quotient, defBody s_quotient, defScope s_quotient, [], []⟩
def d_remainder : He.DefD := ⟨("_remainder", none), "_remainder", "_remainder", defArgs s_remainder, defBody s_remainder, defScope s_remainder, [], []⟩
def d_gap : He.DefD := ⟨("_gap", none), "_gap", "_gap", defArgs s_gap, defBody s_gap, defScope s_gap, [], []⟩
def d_l_fresh : He.DefD := ⟨("_law_fresh", none), "_law_fresh", "_law_fresh", defArgs s_l_fresh, defBody s_l_fresh, defScope s_l_fresh, [], []⟩
def d_l_fill : He.DefD := ⟨("_law_fill", none), "_law_fill", "_law_fill", defArgs s_l_fill, defBody s_l_fill, defScope s_l_fill, [], []⟩
def d_l_take : He.DefD := ⟨("_law_take", none), "_law_take", "_law_take", defArgs s_l_take, defBody s_l_take, defScope s_l_take, [], []⟩
def d_l_one : He.DefD := ⟨("_law_one", none), "_law_one", "_law_one", defArgs s_l_one, defBody s_l_one, defScope s_l_one, [], []⟩
def d_l_same : He.DefD := ⟨("_law_same", none), "_law_same", "_law_same", defArgs s_l_same, defBody s_l_same, defScope s_l_same, [], []⟩
def d_l_low : He.DefD := ⟨("_law_low", none), "_law_low", "_law_low", defArgs s_l_low, defBody s_l_low, defScope s_l_low, [], []⟩
def d_l_figure : He.DefD := ⟨("_law_figure", none), "_law_figure", "_law_figure", defArgs s_l_figure, defBody s_l_figure, defScope s_l_figure, [], []⟩
def d_l_fraction : He.DefD := ⟨("_law_fraction", none), "_law_fraction", "_law_fraction", defArgs s_l_fraction, defBody s_l_fraction, defScope s_l_fraction, [], []⟩
def d_l_odd : He.DefD := ⟨("_law_odd", none), "_law_odd", "_law_odd", defArgs s_l_odd, defBody s_l_odd, defScope s_l_odd, [], []⟩
def d_l_tried : He.DefD := ⟨("_law_tried", none), "_law_tried", "_law_tried", defArgs s_l_tried, defBody s_l_tried, defScope s_l_tried, [], []⟩
def d_l_behind : He.DefD := ⟨("_law_behind", none), "_law_behind", "_law_behind", defArgs s_l_behind, defBody s_l_behind, defScope s_l_behind, [], []⟩
def d_l_ahead : He.DefD := ⟨("_law_ahead", none), "_law_ahead", "_law_ahead", defArgs s_l_ahead, defBody s_l_ahead, defScope s_l_ahead, [], []⟩
def d_l_is_refused : He.DefD := ⟨("_law_is_refused", none), "_law_is_refused", "_law_is_refused", defArgs s_l_is_refused, defBody s_l_is_refused, defScope s_l_is_refused, [], []⟩
def d_law : He.DefD := ⟨("law", none), "law", "law", defArgs s_law, defBody s_law, defScope s_law, [], []⟩
def fn : List He.DefD := [d_BadPart_init, d_is_integer, d_Span_init, d_Span_add, d_Span_radd, d_Span_sub, d_Span_rsub, d_Span_mul, d_Span_rmul, d_Span_floordiv, d_Span_rfloordiv, d_Span_mod, d_Span_rmod, d_Span_eq, d_Span_lt, d_Span_le, d_Span_gt, d_Span_ge, d_floored, d_plain, d_halves, d_sum, d_difference, d_product, d_quotient, d_remainder, d_gap, d_l_fresh, d_l_fill, d_l_take, d_l_one, d_l_same, d_l_low, d_l_figure, d_l_fraction, d_l_odd, d_l_tried, d_l_behind, d_l_ahead, d_l_is_refused, d_law]
def tf : List He.Defn := [("_law_behind", none), ("_law_ahead", none), ("_law_is_refused", none), ("law", none)]
def fa : List He.Fa := [.glo "is_integer",
  .meth "Span" "__add__",
  .meth "Span" "__radd__",
  .meth "Span" "__sub__",
  .meth "Span" "__rsub__",
  .meth "Span" "__mul__",
  .meth "Span" "__rmul__",
  .meth "Span" "__floordiv__",
  .meth "Span" "__rfloordiv__",
  .meth "Span" "__mod__",
  .meth "Span" "__rmod__",
  .meth "Span" "__eq__",
  .meth "Span" "__lt__",
  .meth "Span" "__le__",
  .meth "Span" "__gt__",
  .meth "Span" "__ge__",
  .glo "floored",
  .glo "plain",
  .glo "_halves",
  .glo "_sum",
  .glo "_difference",
  .glo "_product",
  .glo "_quotient",
  .glo "_remainder",
  .glo "_gap",
  .glo "_law_fresh",
  .glo "_law_fill",
  .glo "_law_take",
  .glo "_law_one",
  .glo "_law_same",
  .glo "_law_low",
  .glo "_law_figure",
  .glo "_law_fraction",
  .glo "_law_odd",
  .glo "_law_tried",
  .glo "_law_behind",
  .glo "_law_ahead",
  .glo "_law_is_refused",
  .glo "law",
  .free "len",
  .free "int",
  .free "abs",
  .free "range",
  .free "enumerate",
  .free "isinstance",
  .free "all",
  .free "any",
  .free "zip",
  .free "bool",
  .free "list",
  .free "tuple",
  .free "str",
  .glo "Span",
  .cls "Span",
  .mkr "Span",
  .glo "BadPart",
  .noat "BadPart" "part",
  .noat "Span" "over",
  .noat "Span" "under"]
def fs : List (PySem.W.Frag → Bool) := [(fun K => decide (PySem.W.nsIn K mainGlobals "gcd" = some (some (.builtin "math.gcd")))),
  (fun K => Lt.insTB K (He.ga K "Span")),
  (fun K => decide (PySem.W.kitOne K (.type "int") (.ref (He.ga K "Span")) = some false)),
  (fun K => decide (PySem.W.kitOne K (.type "bool") (.ref (He.ga K "Span")) = some false)),
  (fun K => decide (PySem.W.kitOne K (.type "str") (.ref (He.ga K "Span")) = some false)),
  (fun K => decide (PySem.W.kitOne K (.type "list") (.ref (He.ga K "Span")) = some false)),
  (fun K => decide (PySem.W.kitOne K (.type "tuple") (.ref (He.ga K "Span")) = some false)),
  (fun K => decide (PySem.W.kitOne K (.type "dict") (.ref (He.ga K "Span")) = some false)),
  (fun K => decide (PySem.W.kitOne K (.type "NoneType") (.ref (He.ga K "Span")) = some false)),
  (fun K => decide (PySem.W.kitOne K (.ref (He.ga K "Span")) (.type "int") = some false)),
  (fun K => decide (PySem.W.kitOne K (.ref (He.ga K "Span")) (.type "bool") = some false)),
  (fun K => decide (PySem.W.kitOne K (.ref (He.ga K "Span")) (.type "list") = some false)),
  (fun K => decide (PySem.W.kitOne K (.ref (He.ga K "Span")) (.type "tuple") = some false)),
  (fun K => decide (PySem.W.kitOne K (.ref (He.ga K "Span")) (.type "str") = some false)),
  (fun K => decide (PySem.W.kitOne K (.ref (He.ga K "Span")) (.ref (He.ga K "Span")) = some true)),
  (fun K => decide (PySem.W.findIn K (.ref (He.ga K "Span")) "__ne__" = some (some (.builtin "object.__ne__")))),
  (fun K => decide (PySem.W.subIn K (.ref (He.ga K "Span")) (.type "object") = some true)),
  (fun K => decide (PySem.W.subIn K (.ref (He.ga K "Span")) (.type "NoneType") = some false)),
  (fun K => decide (PySem.W.notFirst K (He.ga K "Span") (.type "NoneType") = true)),
  (fun K => decide (PySem.W.subIn K (.ref (He.ga K "Span")) (.type "bool") = some false)),
  (fun K => decide (PySem.W.notFirst K (He.ga K "Span") (.type "bool") = true)),
  (fun K => decide (PySem.W.subIn K (.ref (He.ga K "Span")) (.type "str") = some false)),
  (fun K => decide (PySem.W.notFirst K (He.ga K "Span") (.type "str") = true)),
  (fun K => decide (PySem.W.subIn K (.ref (He.ga K "Span")) (.type "list") = some false)),
  (fun K => decide (PySem.W.notFirst K (He.ga K "Span") (.type "list") = true)),
  (fun K => decide (PySem.W.subIn K (.ref (He.ga K "Span")) (.type "tuple") = some false)),
  (fun K => decide (PySem.W.notFirst K (He.ga K "Span") (.type "tuple") = true)),
  (fun K => decide (PySem.W.subIn K (.ref (He.ga K "Span")) (.type "dict") = some false)),
  (fun K => decide (PySem.W.notFirst K (He.ga K "Span") (.type "dict") = true)),
  (fun K => decide (PySem.W.subIn K (.ref (He.ga K "Span")) (.type "int") = some false)),
  (fun K => decide (PySem.W.notFirst K (He.ga K "Span") (.type "int") = true)),
  (fun K => decide (PySem.W.notFirst K (He.ga K "Span") (.ref (He.ga K "Span")) = true)),
  (fun K => decide ((PySem.W.findIn K (.type "int") "__add__").isSome = true)),
  (fun K => decide ((PySem.W.findIn K (.type "int") "__radd__").isSome = true)),
  (fun K => decide ((PySem.W.findIn K (.type "int") "__sub__").isSome = true)),
  (fun K => decide ((PySem.W.findIn K (.type "int") "__rsub__").isSome = true)),
  (fun K => decide ((PySem.W.findIn K (.type "int") "__mul__").isSome = true)),
  (fun K => decide ((PySem.W.findIn K (.type "int") "__rmul__").isSome = true)),
  (fun K => decide ((PySem.W.findIn K (.type "int") "__floordiv__").isSome = true)),
  (fun K => decide ((PySem.W.findIn K (.type "int") "__rfloordiv__").isSome = true)),
  (fun K => decide ((PySem.W.findIn K (.type "int") "__mod__").isSome = true)),
  (fun K => decide ((PySem.W.findIn K (.type "int") "__rmod__").isSome = true)),
  (fun K => decide (PySem.W.selfFirst K (He.ga K "Span") = true)),
  (fun K => decide (PySem.W.subIn K (.type "int") (.ref (He.ga K "Span")) = some false)),
  (fun K => Lt.oddB K (He.ga K "Span") .Add),
  (fun K => Lt.oddB K (He.ga K "Span") .Sub),
  (fun K => Lt.oddB K (He.ga K "Span") .Mult),
  (fun K => Lt.oddB K (He.ga K "Span") .FloorDiv),
  (fun K => Lt.oddB K (He.ga K "Span") .Mod),
  (fun K => decide ((tf.map fun d => (He.cT K d).2).Nodup)),
  (fun K => Lt.exKB K "BadPart")]
structure Txt (K : PySem.W.Frag) (mg : Str → Option Value) where
  fd_BadPart_init : FuncData
  F_BadPart_init : FunD K "__init__" "BadPart.__init__" (defArgs s_BadPart_init) (defBody s_BadPart_init) (defScope s_BadPart_init) [] [] (He.fAd K ("BadPart", some "__init__")) fd_BadPart_init
  fd_is_integer : FuncData
  F_is_integer : FunD K "is_integer" "is_integer" (defArgs s_is_integer) (defBody s_is_integer) (defScope s_is_integer) [] [] (He.fAd K ("is_integer", none)) fd_is_integer
  g_is_integer : mg "is_integer" = some (.ref (He.fAd K ("is_integer", none)))
  fd_Span_init : FuncData
  F_Span_init : FunD K "__init__" "Span.__init__" (defArgs s_Span_init) (defBody s_Span_init) (defScope s_Span_init) [.int 1] [] (He.fAd K ("Span", some "__init__")) fd_Span_init
  fd_Span_add : FuncData
  F_Span_add : FunD K "__add__" "Span.__add__" (defArgs s_Span_add) (defBody s_Span_add) (defScope s_Span_add) [] [] (He.fAd K ("Span", some "__add__")) fd_Span_add
  m_Span_add : Meth K (He.ga K "Span") "__add__" (He.fAd K ("Span", some "__add__"))
  fd_Span_radd : FuncData
  F_Span_radd : FunD K "__radd__" "Span.__radd__" (defArgs s_Span_radd) (defBody s_Span_radd) (defScope s_Span_radd) [] [] (He.fAd K ("Span", some "__radd__")) fd_Span_radd
  m_Span_radd : Meth K (He.ga K "Span") "__radd__" (He.fAd K ("Span", some "__radd__"))
  fd_Span_sub : FuncData
  F_Span_sub : FunD K "__sub__" "Span.__sub__" (defArgs s_Span_sub) (defBody s_Span_sub) (defScope s_Span_sub) [] [] (He.fAd K ("Span", some "__sub__")) fd_Span_sub
  m_Span_sub : Meth K (He.ga K "Span") "__sub__" (He.fAd K ("Span", some "__sub__"))
  fd_Span_rsub : FuncData
  F_Span_rsub : FunD K "__rsub__" "Span.__rsub__" (defArgs s_Span_rsub) (defBody s_Span_rsub) (defScope s_Span_rsub) [] [] (He.fAd K ("Span", some "__rsub__")) fd_Span_rsub
  m_Span_rsub : Meth K (He.ga K "Span") "__rsub__" (He.fAd K ("Span", some "__rsub__"))
  fd_Span_mul : FuncData
  F_Span_mul : FunD K "__mul__" "Span.__mul__" (defArgs s_Span_mul) (defBody s_Span_mul) (defScope s_Span_mul) [] [] (He.fAd K ("Span", some "__mul__")) fd_Span_mul
  m_Span_mul : Meth K (He.ga K "Span") "__mul__" (He.fAd K ("Span", some "__mul__"))
  fd_Span_rmul : FuncData
  F_Span_rmul : FunD K "__rmul__" "Span.__rmul__" (defArgs s_Span_rmul) (defBody s_Span_rmul) (defScope s_Span_rmul) [] [] (He.fAd K ("Span", some "__rmul__")) fd_Span_rmul
  m_Span_rmul : Meth K (He.ga K "Span") "__rmul__" (He.fAd K ("Span", some "__rmul__"))
  fd_Span_floordiv : FuncData
  F_Span_floordiv : FunD K "__floordiv__" "Span.__floordiv__" (defArgs s_Span_floordiv) (defBody s_Span_floordiv) (defScope s_Span_floordiv) [] [] (He.fAd K ("Span", some "__floordiv__")) fd_Span_floordiv
  m_Span_floordiv : Meth K (He.ga K "Span") "__floordiv__" (He.fAd K ("Span", some "__floordiv__"))
  fd_Span_rfloordiv : FuncData
  F_Span_rfloordiv : FunD K "__rfloordiv__" "Span.__rfloordiv__" (defArgs s_Span_rfloordiv) (defBody s_Span_rfloordiv) (defScope s_Span_rfloordiv) [] [] (He.fAd K ("Span", some "__rfloordiv__")) fd_Span_rfloordiv
  m_Span_rfloordiv : Meth K (He.ga K "Span") "__rfloordiv__" (He.fAd K ("Span", some "__rfloordiv__"))
  fd_Span_mod : FuncData
  F_Span_mod : FunD K "__mod__" "Span.__mod__" (defArgs s_Span_mod) (defBody s_Span_mod) (defScope s_Span_mod) [] [] (He.fAd K ("Span", some "__mod__")) fd_Span_mod
  m_Span_mod : Meth K (He.ga K "Span") "__mod__" (He.fAd K ("Span", some "__mod__"))
  fd_Span_rmod : FuncData
  F_Span_rmod : FunD K "__rmod__" "Span.__rmod__" (defArgs s_Span_rmod) (defBody s_Span_rmod) (defScope s_Span_rmod) [] [] (He.fAd K ("Span", some "__rmod__")) fd_Span_rmod
  m_Span_rmod : Meth K (He.ga K "Span") "__rmod__" (He.fAd K ("Span", some "__rmod__"))
  fd_Span_eq : FuncData
  F_Span_eq : FunD K "__eq__" "Span.__eq__" (defArgs s_Span_eq) (defBody s_Span_eq) (defScope s_Span_eq) [] [] (He.fAd K ("Span", some "__eq__")) fd_Span_eq
  m_Span_eq : Meth K (He.ga K "Span") "__eq__" (He.fAd K ("Span", some "__eq__"))
  fd_Span_lt : FuncData
  F_Span_lt : FunD K "__lt__" "Span.__lt__" (defArgs s_Span_lt) (defBody s_Span_lt) (defScope s_Span_lt) [] [] (He.fAd K ("Span", some "__lt__")) fd_Span_lt
  m_Span_lt : Meth K (He.ga K "Span") "__lt__" (He.fAd K ("Span", some "__lt__"))
  fd_Span_le : FuncData
  F_Span_le : FunD K "__le__" "Span.__le__" (defArgs s_Span_le) (defBody s_Span_le) (defScope s_Span_le) [] [] (He.fAd K ("Span", some "__le__")) fd_Span_le
  m_Span_le : Meth K (He.ga K "Span") "__le__" (He.fAd K ("Span", some "__le__"))
  fd_Span_gt : FuncData
  F_Span_gt : FunD K "__gt__" "Span.__gt__" (defArgs s_Span_gt) (defBody s_Span_gt) (defScope s_Span_gt) [] [] (He.fAd K ("Span", some "__gt__")) fd_Span_gt
  m_Span_gt : Meth K (He.ga K "Span") "__gt__" (He.fAd K ("Span", some "__gt__"))
  fd_Span_ge : FuncData
  F_Span_ge : FunD K "__ge__" "Span.__ge__" (defArgs s_Span_ge) (defBody s_Span_ge) (defScope s_Span_ge) [] [] (He.fAd K ("Span", some "__ge__")) fd_Span_ge
  m_Span_ge : Meth K (He.ga K "Span") "__ge__" (He.fAd K ("Span", some "__ge__"))
  fd_floored : FuncData
  F_floored : FunD K "floored" "floored" (defArgs s_floored) (defBody s_floored) (defScope s_floored) [] [] (He.fAd K ("floored", none)) fd_floored
  g_floored : mg "floored" = some (.ref (He.fAd K ("floored", none)))
  fd_plain : FuncData
  F_plain : FunD K "plain" "plain" (defArgs s_plain) (defBody s_plain) (defScope s_plain) [] [] (He.fAd K ("plain", none)) fd_plain
  g_plain : mg "plain" = some (.ref (He.fAd K ("plain", none)))
  fd_halves : FuncData
  F_halves : FunD K "_halves" "_halves" (defArgs s_halves) (defBody s_halves) (defScope s_halves) [] [] (He.fAd K ("_halves", none)) fd_halves
  g_halves : mg "_halves" = some (.ref (He.fAd K ("_halves", none)))
  fd_sum : FuncData
  F_sum : FunD K "_sum" "_sum" (defArgs s_sum) (defBody s_sum) (defScope s_sum) [] [] (He.fAd K ("_sum", none)) fd_sum
  g_sum : mg "_sum" = some (.ref (He.fAd K ("_sum", none)))
  fd_difference : FuncData
  F_difference : FunD K "_difference" "_difference" (defArgs s_difference) (defBody s_difference) (defScope s_difference) [] [] (He.fAd K ("_difference", none)) fd_difference
  g_difference : mg "_difference" = some (.ref (He.fAd K ("_difference", none)))
  fd_product : FuncData
  F_product : FunD K "_product" "_product" (defArgs s_product) (defBody s_product) (defScope s_product) [] [] (He.fAd K ("_product", none)) fd_product
  g_product : mg "_product" = some (.ref (He.fAd K ("_product", none)))
  fd_quotient : FuncData
  F_quotient : FunD K "_quotient" "_quotient" (defArgs s_quotient) (defBody s_quotient) (defScope s_quotient) [] [] (He.fAd K ("_quotient", none)) fd_quotient
  g_quotient : mg "_quotient" = some (.ref (He.fAd K ("_quotient", none)))
  fd_remainder : FuncData
  F_remainder : FunD K "_remainder" "_remainder" (defArgs s_remainder) (defBody s_remainder) (defScope s_remainder) [] [] (He.fAd K ("_remainder", none)) fd_remainder
  g_remainder : mg "_remainder" = some (.ref (He.fAd K ("_remainder", none)))
  fd_gap : FuncData
  F_gap : FunD K "_gap" "_gap" (defArgs s_gap) (defBody s_gap) (defScope s_gap) [] [] (He.fAd K ("_gap", none)) fd_gap
  g_gap : mg "_gap" = some (.ref (He.fAd K ("_gap", none)))
  fd_l_fresh : FuncData
  F_l_fresh : FunD K "_law_fresh" "_law_fresh" (defArgs s_l_fresh) (defBody s_l_fresh) (defScope s_l_fresh) [] [] (He.fAd K ("_law_fresh", none)) fd_l_fresh
  g_l_fresh : mg "_law_fresh" = some (.ref (He.fAd K ("_law_fresh", none)))
  fd_l_fill : FuncData
  F_l_fill : FunD K "_law_fill" "_law_fill" (defArgs s_l_fill) (defBody s_l_fill) (defScope s_l_fill) [] [] (He.fAd K ("_law_fill", none)) fd_l_fill
  g_l_fill : mg "_law_fill" = some (.ref (He.fAd K ("_law_fill", none)))
  fd_l_take : FuncData
  F_l_take : FunD K "_law_take" "_law_take" (defArgs s_l_take) (defBody s_l_take) (defScope s_l_take) [] [] (He.fAd K ("_law_take", none)) fd_l_take
  g_l_take : mg "_law_take" = some (.ref (He.fAd K ("_law_take", none)))
  fd_l_one : FuncData
  F_l_one : FunD K "_law_one" "_law_one" (defArgs s_l_one) (defBody s_l_one) (defScope s_l_one) [] [] (He.fAd K ("_law_one", none)) fd_l_one
  g_l_one : mg "_law_one" = some (.ref (He.fAd K ("_law_one", none)))
  fd_l_same : FuncData
  F_l_same : FunD K "_law_same" "_law_same" (defArgs s_l_same) (defBody s_l_same) (defScope s_l_same) [] [] (He.fAd K ("_law_same", none)) fd_l_same
  g_l_same : mg "_law_same" = some (.ref (He.fAd K ("_law_same", none)))
  fd_l_low : FuncData
  F_l_low : FunD K "_law_low" "_law_low" (defArgs s_l_low) (defBody s_l_low) (defScope s_l_low) [] [] (He.fAd K ("_law_low", none)) fd_l_low
  g_l_low : mg "_law_low" = some (.ref (He.fAd K ("_law_low", none)))
  fd_l_figure : FuncData
  F_l_figure : FunD K "_law_figure" "_law_figure" (defArgs s_l_figure) (defBody s_l_figure) (defScope s_l_figure) [] [] (He.fAd K ("_law_figure", none)) fd_l_figure
  g_l_figure : mg "_law_figure" = some (.ref (He.fAd K ("_law_figure", none)))
  fd_l_fraction : FuncData
  F_l_fraction : FunD K "_law_fraction" "_law_fraction" (defArgs s_l_fraction) (defBody s_l_fraction) (defScope s_l_fraction) [] [] (He.fAd K ("_law_fraction", none)) fd_l_fraction
  g_l_fraction : mg "_law_fraction" = some (.ref (He.fAd K ("_law_fraction", none)))
  fd_l_odd : FuncData
  F_l_odd : FunD K "_law_odd" "_law_odd" (defArgs s_l_odd) (defBody s_l_odd) (defScope s_l_odd) [] [] (He.fAd K ("_law_odd", none)) fd_l_odd
  g_l_odd : mg "_law_odd" = some (.ref (He.fAd K ("_law_odd", none)))
  fd_l_tried : FuncData
  F_l_tried : FunD K "_law_tried" "_law_tried" (defArgs s_l_tried) (defBody s_l_tried) (defScope s_l_tried) [] [] (He.fAd K ("_law_tried", none)) fd_l_tried
  g_l_tried : mg "_law_tried" = some (.ref (He.fAd K ("_law_tried", none)))
  fd_l_behind : FuncData
  F_l_behind : FunD K "_law_behind" "_law_behind" (defArgs s_l_behind) (defBody s_l_behind) (defScope s_l_behind) [] [] (He.fAd K ("_law_behind", none)) fd_l_behind
  g_l_behind : mg "_law_behind" = some (.ref (He.fAd K ("_law_behind", none)))
  fd_l_ahead : FuncData
  F_l_ahead : FunD K "_law_ahead" "_law_ahead" (defArgs s_l_ahead) (defBody s_l_ahead) (defScope s_l_ahead) [] [] (He.fAd K ("_law_ahead", none)) fd_l_ahead
  g_l_ahead : mg "_law_ahead" = some (.ref (He.fAd K ("_law_ahead", none)))
  fd_l_is_refused : FuncData
  F_l_is_refused : FunD K "_law_is_refused" "_law_is_refused" (defArgs s_l_is_refused) (defBody s_l_is_refused) (defScope s_l_is_refused) [] [] (He.fAd K ("_law_is_refused", none)) fd_l_is_refused
  g_l_is_refused : mg "_law_is_refused" = some (.ref (He.fAd K ("_law_is_refused", none)))
  fd_law : FuncData
  F_law : FunD K "law" "law" (defArgs s_law) (defBody s_law) (defScope s_law) [] [] (He.fAd K ("law", none)) fd_law
  g_law : mg "law" = some (.ref (He.fAd K ("law", none)))
  n_len : mg "len" = none
  n_int : mg "int" = none
  n_abs : mg "abs" = none
  n_range : mg "range" = none
  n_enumerate : mg "enumerate" = none
  n_isinstance : mg "isinstance" = none
  n_all : mg "all" = none
  n_any : mg "any" = none
  n_zip : mg "zip" = none
  n_bool : mg "bool" = none
  n_list : mg "list" = none
  n_tuple : mg "tuple" = none
  n_str : mg "str" = none
  g_Span : mg "Span" = some (.ref (He.ga K "Span"))
  c_Span : Cls K (He.ga K "Span")
  k_Span : Mk K (He.ga K "Span") (He.fAd K ("Span", some "__init__"))
  g_BadPart : mg "BadPart" = some (.ref (He.ga K "BadPart"))
  a_BadPart_part : PySem.W.findIn K (.ref (He.ga K "BadPart")) "part" = some none
  a_Span_over : NoAttr K (He.ga K "Span") "over"
  a_Span_under : NoAttr K (He.ga K "Span") "under"
  g_gcd : mg "gcd" = some (.builtin "math.gcd")
  i_Span : Lt.InsT K (He.ga K "Span")
  q_int_Span : PySem.W.kitOne K (.type "int") (.ref (He.ga K "Span")) = some false
  q_bool_Span : PySem.W.kitOne K (.type "bool") (.ref (He.ga K "Span")) = some false
  q_str_Span : PySem.W.kitOne K (.type "str") (.ref (He.ga K "Span")) = some false
  q_list_Span : PySem.W.kitOne K (.type "list") (.ref (He.ga K "Span")) = some false
  q_tuple_Span : PySem.W.kitOne K (.type "tuple") (.ref (He.ga K "Span")) = some false
  q_dict_Span : PySem.W.kitOne K (.type "dict") (.ref (He.ga K "Span")) = some false
  q_NoneType_Span : PySem.W.kitOne K (.type "NoneType") (.ref (He.ga K "Span")) = some false
  q_Span_int : PySem.W.kitOne K (.ref (He.ga K "Span")) (.type "int") = some false
  q_Span_bool : PySem.W.kitOne K (.ref (He.ga K "Span")) (.type "bool") = some false
  q_Span_list : PySem.W.kitOne K (.ref (He.ga K "Span")) (.type "list") = some false
  q_Span_tuple : PySem.W.kitOne K (.ref (He.ga K "Span")) (.type "tuple") = some false
  q_Span_str : PySem.W.kitOne K (.ref (He.ga K "Span")) (.type "str") = some false
  q_Span_Span : PySem.W.kitOne K (.ref (He.ga K "Span")) (.ref (He.ga K "Span")) = some true
  ne_Span : PySem.W.findIn K (.ref (He.ga K "Span")) "__ne__" = some (some (.builtin "object.__ne__"))
  ob_Span : PySem.W.subIn K (.ref (He.ga K "Span")) (.type "object") = some true
  su_NoneType : PySem.W.subIn K (.ref (He.ga K "Span")) (.type "NoneType") = some false
  nf_NoneType : PySem.W.notFirst K (He.ga K "Span") (.type "NoneType") = true
  su_bool : PySem.W.subIn K (.ref (He.ga K "Span")) (.type "bool") = some false
  nf_bool : PySem.W.notFirst K (He.ga K "Span") (.type "bool") = true
  su_str : PySem.W.subIn K (.ref (He.ga K "Span")) (.type "str") = some false
  nf_str : PySem.W.notFirst K (He.ga K "Span") (.type "str") = true
  su_list : PySem.W.subIn K (.ref (He.ga K "Span")) (.type "list") = some false
  nf_list : PySem.W.notFirst K (He.ga K "Span") (.type "list") = true
  su_tuple : PySem.W.subIn K (.ref (He.ga K "Span")) (.type "tuple") = some false
  nf_tuple : PySem.W.notFirst K (He.ga K "Span") (.type "tuple") = true
  su_dict : PySem.W.subIn K (.ref (He.ga K "Span")) (.type "dict") = some false
  nf_dict : PySem.W.notFirst K (He.ga K "Span") (.type "dict") = true
  su_int : PySem.W.subIn K (.ref (He.ga K "Span")) (.type "int") = some false
  nf_int : PySem.W.notFirst K (He.ga K "Span") (.type "int") = true
  nf_Span : PySem.W.notFirst K (He.ga K "Span") (.ref (He.ga K "Span")) = true
  fi_add : (PySem.W.findIn K (.type "int") "__add__").isSome = true
  fi_radd : (PySem.W.findIn K (.type "int") "__radd__").isSome = true
  fi_sub : (PySem.W.findIn K (.type "int") "__sub__").isSome = true
  fi_rsub : (PySem.W.findIn K (.type "int") "__rsub__").isSome = true
  fi_mul : (PySem.W.findIn K (.type "int") "__mul__").isSome = true
  fi_rmul : (PySem.W.findIn K (.type "int") "__rmul__").isSome = true
  fi_floordiv : (PySem.W.findIn K (.type "int") "__floordiv__").isSome = true
  fi_rfloordiv : (PySem.W.findIn K (.type "int") "__rfloordiv__").isSome = true
  fi_mod : (PySem.W.findIn K (.type "int") "__mod__").isSome = true
  fi_rmod : (PySem.W.findIn K (.type "int") "__rmod__").isSome = true
  sf_Span : PySem.W.selfFirst K (He.ga K "Span") = true
  is_Span : PySem.W.subIn K (.type "int") (.ref (He.ga K "Span")) = some false
  od_add : Lt.oddB K (He.ga K "Span") .Add = true
  od_sub : Lt.oddB K (He.ga K "Span") .Sub = true
  od_mul : Lt.oddB K (He.ga K "Span") .Mult = true
  od_floordiv : Lt.oddB K (He.ga K "Span") .FloorDiv = true
  od_mod : Lt.oddB K (He.ga K "Span") .Mod = true
  tabN : (tf.map fun d => (He.cT K d).2).Nodup
  x_BadPart : Lt.ExK K (He.ga K "BadPart") (He.fAd K ("BadPart", some "__init__"))
  b_BadPart_init : Binds K fd_BadPart_init ["self", "part"] []
  b_is_integer : Binds K fd_is_integer ["thing"] []
  b_Span_init1 : ∃ ds, Vals [.int 1] ds ∧ Binds K fd_Span_init ["self", "over", "under"] ds
  b_Span_init2 : ∃ ds, Vals ([] : List V) ds ∧ Binds K fd_Span_init ["self", "over", "under"] ds
  b_Span_add : Binds K fd_Span_add ["self", "other"] []
  b_Span_radd : Binds K fd_Span_radd ["self", "other"] []
  b_Span_sub : Binds K fd_Span_sub ["self", "other"] []
  b_Span_rsub : Binds K fd_Span_rsub ["self", "other"] []
  b_Span_mul : Binds K fd_Span_mul ["self", "other"] []
  b_Span_rmul : Binds K fd_Span_rmul ["self", "other"] []
  b_Span_floordiv : Binds K fd_Span_floordiv ["self", "other"] []
  b_Span_rfloordiv : Binds K fd_Span_rfloordiv ["self", "other"] []
  b_Span_mod : Binds K fd_Span_mod ["self", "other"] []
  b_Span_rmod : Binds K fd_Span_rmod ["self", "other"] []
  b_Span_eq : Binds K fd_Span_eq ["self", "other"] []
  b_Span_lt : Binds K fd_Span_lt ["self", "other"] []
  b_Span_le : Binds K fd_Span_le ["self", "other"] []
  b_Span_gt : Binds K fd_Span_gt ["self", "other"] []
  b_Span_ge : Binds K fd_Span_ge ["self", "other"] []
  b_floored : Binds K fd_floored ["number"] []
  b_plain : Binds K fd_plain ["number"] []
  b_halves : Binds K fd_halves ["number"] []
  b_sum : Binds K fd_sum ["one", "two"] []
  b_difference : Binds K fd_difference ["one", "two"] []
  b_product : Binds K fd_product ["one", "two"] []
  b_quotient : Binds K fd_quotient ["one", "two"] []
  b_remainder : Binds K fd_remainder ["one", "two"] []
  b_gap : Binds K fd_gap ["one", "two"] []
  b_l_fresh : Binds K fd_l_fresh ["_law_script"] []
  b_l_fill : Binds K fd_l_fill ["_law_state"] []
  b_l_take : Binds K fd_l_take ["_law_state", "_law_many"] []
  b_l_one : Binds K fd_l_one ["_law_state", "_law_things"] []
  b_l_same : Binds K fd_l_same ["_law_found", "_law_due"] []
  b_l_low : Binds K fd_l_low ["_law_top", "_law_low_here"] []
  b_l_figure : Binds K fd_l_figure ["_law_state"] []
  b_l_fraction : Binds K fd_l_fraction ["_law_state"] []
  b_l_odd : Binds K fd_l_odd ["_law_state"] []
  b_l_tried : Binds K fd_l_tried ["_law_ask"] []
  b_l_behind : Binds K fd_l_behind ["_law_a", "_law_x"] []
  b_l_ahead : Binds K fd_l_ahead ["_law_a", "_law_x"] []
  b_l_is_refused : Binds K fd_l_is_refused ["_law_a"] []
  b_law : Binds K fd_law ["_law_script"] []
  kb_Span_init_under_over : ∃ g, KBn K fd_Span_init ["self", "over", "under"] 1 ["under", "over"] g (fun vs zs => gSpanK vs [V.int 1] zs)
theorem txt_of {K : PySem.W.Frag} {h : Heap} {mg : Str → Option Value} (X : K.In h) (G : h.Ns mainGlobals mg) (c : Lt.SaysM fa fs fn K) : Nonempty (Txt K mg) := by
  obtain ⟨fd_BadPart_init, F_BadPart_init⟩ := c.def_ 0 (d := d_BadPart_init) rfl
  have b_BadPart_init := FunD.bindsN (ps := ["self", "part"]) F_BadPart_init fun _ _ _ _ _ _ us hl => match us, hl with | [_, _], _ => rfl
  obtain ⟨fd_is_integer, F_is_integer⟩ := c.def_ 1 (d := d_is_integer) rfl
  have b_is_integer := FunD.bindsN (ps := ["thing"]) F_is_integer fun _ _ _ _ _ _ us hl => match us, hl with | [_], _ => rfl
  obtain ⟨fd_Span_init, F_Span_init⟩ := c.def_ 2 (d := d_Span_init) rfl
  obtain ⟨fd_Span_add, F_Span_add⟩ := c.def_ 3 (d := d_Span_add) rfl
  have b_Span_add := FunD.bindsN (ps := ["self", "other"]) F_Span_add fun _ _ _ _ _ _ us hl => match us, hl with | [_, _], _ => rfl
  obtain ⟨fd_Span_radd, F_Span_radd⟩ := c.def_ 4 (d := d_Span_radd) rfl
  have b_Span_radd := FunD.bindsN (ps := ["self", "other"]) F_Span_radd fun _ _ _ _ _ _ us hl => match us, hl with | [_, _], _ => rfl
  obtain ⟨fd_Span_sub, F_Span_sub⟩ := c.def_ 5 (d := d_Span_sub) rfl
  have b_Span_sub := FunD.bindsN (ps := ["self", "other"]) F_Span_sub fun _ _ _ _ _ _ us hl => match us, hl with | [_, _], _ => rfl
  obtain ⟨fd_Span_rsub, F_Span_rsub⟩ := c.def_ 6 (d := d_Span_rsub) rfl
  have b_Span_rsub := FunD.bindsN (ps := ["self", "other"]) F_Span_rsub fun _ _ _ _ _ _ us hl => match us, hl with | [_, _], _ => rfl
  obtain ⟨fd_Span_mul, F_Span_mul⟩ := c.def_ 7 (d := d_Span_mul) rfl
  have b_Span_mul := FunD.bindsN (ps := ["self", "other"]) F_Span_mul fun _ _ _ _ _ _ us hl => match us, hl with | [_, _], _ => rfl
  obtain ⟨fd_Span_rmul, F_Span_rmul⟩ := c.def_ 8 (d := d_Span_rmul) rfl
  have b_Span_rmul := FunD.bindsN (ps := ["self", "other"]) F_Span_rmul fun _ _ _ _ _ _ us hl => match us, hl with | [_, _], _ => rfl
  obtain ⟨fd_Span_floordiv, F_Span_floordiv⟩ := c.def_ 9 (d := d_Span_floordiv) rfl
  have b_Span_floordiv := FunD.bindsN (ps := ["self", "other"]) F_Span_floordiv fun _ _ _ _ _ _ us hl => match us, hl with | [_, _], _ => rfl
  obtain ⟨fd_Span_rfloordiv, F_Span_rfloordiv⟩ := c.def_ 10 (d := d_Span_rfloordiv) rfl
  have b_Span_rfloordiv := FunD.bindsN (ps := ["self", "other"]) F_Span_rfloordiv fun _ _ _ _ _ _ us hl => match us, hl with | [_, _], _ => rfl
  obtain ⟨fd_Span_mod, F_Span_mod⟩ := c.def_ 11 (d := d_Span_mod) rfl
  have b_Span_mod := FunD.bindsN (ps := ["self", "other"]) F_Span_mod fun _ _ _ _ _ _ us hl => match us, hl with | [_, _], _ => rfl
  obtain ⟨fd_Span_rmod, F_Span_rmod⟩ := c.def_ 12 (d := d_Span_rmod) rfl
  have b_Span_rmod := FunD.bindsN (ps := ["self", "other"]) F_Span_rmod fun _ _ _ _ _ _ us hl => match us, hl with | [_, _], _ => rfl
  obtain ⟨fd_Span_eq, F_Span_eq⟩ := c.def_ 13 (d := d_Span_eq) rfl
  have b_Span_eq := FunD.bindsN (ps := ["self", "other"]) F_Span_eq fun _ _ _ _ _ _ us hl => match us, hl with | [_, _], _ => rfl
  obtain ⟨fd_Span_lt, F_Span_lt⟩ := c.def_ 14 (d := d_Span_lt) rfl
  have b_Span_lt := FunD.bindsN (ps := ["self", "other"]) F_Span_lt fun _ _ _ _ _ _ us hl => match us, hl with | [_, _], _ => rfl
  obtain ⟨fd_Span_le, F_Span_le⟩ := c.def_ 15 (d := d_Span_le) rfl
  have b_Span_le := FunD.bindsN (ps := ["self", "other"]) F_Span_le fun _ _ _ _ _ _ us hl => match us, hl with | [_, _], _ => rfl
  obtain ⟨fd_Span_gt, F_Span_gt⟩ := c.def_ 16 (d := d_Span_gt) rfl
  have b_Span_gt := FunD.bindsN (ps := ["self", "other"]) F_Span_gt fun _ _ _ _ _ _ us hl => match us, hl with | [_, _], _ => rfl
  obtain ⟨fd_Span_ge, F_Span_ge⟩ := c.def_ 17 (d := d_Span_ge) rfl
  have b_Span_ge := FunD.bindsN (ps := ["self", "other"]) F_Span_ge fun _ _ _ _ _ _ us hl => match us, hl with | [_, _], _ => rfl
  obtain ⟨fd_floored, F_floored⟩ := c.def_ 18 (d := d_floored) rfl
  have b_floored := FunD.bindsN (ps := ["number"]) F_floored fun _ _ _ _ _ _ us hl => match us, hl with | [_], _ => rfl
  obtain ⟨fd_plain, F_plain⟩ := c.def_ 19 (d := d_plain) rfl
  have b_plain := FunD.bindsN (ps := ["number"]) F_plain fun _ _ _ _ _ _ us hl => match us, hl with | [_], _ => rfl
  obtain ⟨fd_halves, F_halves⟩ := c.def_ 20 (d := d_halves) rfl
  have b_halves := FunD.bindsN (ps := ["number"]) F_halves fun _ _ _ _ _ _ us hl => match us, hl with | [_], _ => rfl
  obtain ⟨fd_sum, F_sum⟩ := c.def_ 21 (d := d_sum) rfl
  have b_sum := FunD.bindsN (ps := ["one", "two"]) F_sum fun _ _ _ _ _ _ us hl => match us, hl with | [_, _], _ => rfl
  obtain ⟨fd_difference, F_difference⟩ := c.def_ 22 (d := d_difference) rfl
  have b_difference := FunD.bindsN (ps := ["one", "two"]) F_difference fun _ _ _ _ _ _ us hl => match us, hl with | [_, _], _ => rfl
  obtain ⟨fd_product, F_product⟩ := c.def_ 23 (d := d_product) rfl
  have b_product := FunD.bindsN (ps := ["one", "two"]) F_product fun _ _ _ _ _ _ us hl => match us, hl with | [_, _], _ => rfl
  obtain ⟨fd_quotient, F_quotient⟩ := c.def_ 24 (d := d_quotient) rfl
  have b_quotient := FunD.bindsN (ps := ["one", "two"]) F_quotient fun _ _ _ _ _ _ us hl => match us, hl with | [_, _], _ => rfl
  obtain ⟨fd_remainder, F_remainder⟩ := c.def_ 25 (d := d_remainder) rfl
  have b_remainder := FunD.bindsN (ps := ["one", "two"]) F_remainder fun _ _ _ _ _ _ us hl => match us, hl with | [_, _], _ => rfl
  obtain ⟨fd_gap, F_gap⟩ := c.def_ 26 (d := d_gap) rfl
  have b_gap := FunD.bindsN (ps := ["one", "two"]) F_gap fun _ _ _ _ _ _ us hl => match us, hl with | [_, _], _ => rfl
  obtain ⟨fd_l_fresh, F_l_fresh⟩ := c.def_ 27 (d := d_l_fresh) rfl
  have b_l_fresh := FunD.bindsN (ps := ["_law_script"]) F_l_fresh fun _ _ _ _ _ _ us hl => match us, hl with | [_], _ => rfl
  obtain ⟨fd_l_fill, F_l_fill⟩ := c.def_ 28 (d := d_l_fill) rfl
  have b_l_fill := FunD.bindsN (ps := ["_law_state"]) F_l_fill fun _ _ _ _ _ _ us hl => match us, hl with | [_], _ => rfl
  obtain ⟨fd_l_take, F_l_take⟩ := c.def_ 29 (d := d_l_take) rfl
  have b_l_take := FunD.bindsN (ps := ["_law_state", "_law_many"]) F_l_take fun _ _ _ _ _ _ us hl => match us, hl with | [_, _], _ => rfl
  obtain ⟨fd_l_one, F_l_one⟩ := c.def_ 30 (d := d_l_one) rfl
  have b_l_one := FunD.bindsN (ps := ["_law_state", "_law_things"]) F_l_one fun _ _ _ _ _ _ us hl => match us, hl with | [_, _], _ => rfl
  obtain ⟨fd_l_same, F_l_same⟩ := c.def_ 31 (d := d_l_same) rfl
  have b_l_same := FunD.bindsN (ps := ["_law_found", "_law_due"]) F_l_same fun _ _ _ _ _ _ us hl => match us, hl with | [_, _], _ => rfl
  obtain ⟨fd_l_low, F_l_low⟩ := c.def_ 32 (d := d_l_low) rfl
  have b_l_low := FunD.bindsN (ps := ["_law_top", "_law_low_here"]) F_l_low fun _ _ _ _ _ _ us hl => match us, hl with | [_, _], _ => rfl
  obtain ⟨fd_l_figure, F_l_figure⟩ := c.def_ 33 (d := d_l_figure) rfl
  have b_l_figure := FunD.bindsN (ps := ["_law_state"]) F_l_figure fun _ _ _ _ _ _ us hl => match us, hl with | [_], _ => rfl
  obtain ⟨fd_l_fraction, F_l_fraction⟩ := c.def_ 34 (d := d_l_fraction) rfl
  have b_l_fraction := FunD.bindsN (ps := ["_law_state"]) F_l_fraction fun _ _ _ _ _ _ us hl => match us, hl with | [_], _ => rfl
  obtain ⟨fd_l_odd, F_l_odd⟩ := c.def_ 35 (d := d_l_odd) rfl
  have b_l_odd := FunD.bindsN (ps := ["_law_state"]) F_l_odd fun _ _ _ _ _ _ us hl => match us, hl with | [_], _ => rfl
  obtain ⟨fd_l_tried, F_l_tried⟩ := c.def_ 36 (d := d_l_tried) rfl
  have b_l_tried := FunD.bindsN (ps := ["_law_ask"]) F_l_tried fun _ _ _ _ _ _ us hl => match us, hl with | [_], _ => rfl
  obtain ⟨fd_l_behind, F_l_behind⟩ := c.def_ 37 (d := d_l_behind) rfl
  have b_l_behind := FunD.bindsN (ps := ["_law_a", "_law_x"]) F_l_behind fun _ _ _ _ _ _ us hl => match us, hl with | [_, _], _ => rfl
  obtain ⟨fd_l_ahead, F_l_ahead⟩ := c.def_ 38 (d := d_l_ahead) rfl
  have b_l_ahead := FunD.bindsN (ps := ["_law_a", "_law_x"]) F_l_ahead fun _ _ _ _ _ _ us hl => match us, hl with | [_, _], _ => rfl
  obtain ⟨fd_l_is_refused, F_l_is_refused⟩ := c.def_ 39 (d := d_l_is_refused) rfl
  have b_l_is_refused := FunD.bindsN (ps := ["_law_a"]) F_l_is_refused fun _ _ _ _ _ _ us hl => match us, hl with | [_], _ => rfl
  obtain ⟨fd_law, F_law⟩ := c.def_ 40 (d := d_law) rfl
  have b_law := FunD.bindsN (ps := ["_law_script"]) F_law fun _ _ _ _ _ _ us hl => match us, hl with | [_], _ => rfl
  have b_Span_init1 : ∃ ds, Vals [.int 1] ds ∧ Binds K fd_Span_init ["self", "over", "under"] ds := FunD.binds1 (ps := ["self", "over", "under"]) F_Span_init 2 0 (fun z => by cases z) rfl (fun T kV doc pm an cdv ct us its hu hi => match us, hu, its, hi with | [_, _], _, [_], _ => ⟨_, rfl, rfl⟩)
  have b_Span_init2 : ∃ ds, Vals ([] : List V) ds ∧ Binds K fd_Span_init ["self", "over", "under"] ds := FunD.binds1 (ps := ["self", "over", "under"]) F_Span_init 3 1 (fun z => by cases z) rfl (fun T kV doc pm an cdv ct us its hu hi => match us, hu, its, hi with | [_, _, _], _, [_], _ => ⟨_, rfl, rfl⟩)
  have kb_Span_init_under_over : ∃ g, KBn K fd_Span_init ["self", "over", "under"] 1 ["under", "over"] g (fun vs zs => gSpanK vs [V.int 1] zs) := by
    obtain ⟨its, h⟩ := FunD.kbindsD (ps := ["self", "over", "under"]) F_Span_init 1 ["under", "over"] gSpanK (fun z => by cases z) (fun r1 r2 r3 => by cases r1 with | nil => exact .nil | cons a r => cases r with | cons b r => exact .nil | nil => cases r3 with | nil => exact .nil | cons z1 r => cases r with | nil => exact .nil | cons z2 r => cases r with | nil => exact .cons a (.cons z2 (.cons z1 .nil)) | cons z3 r => exact .nil) (fun T kV doc pm an cdv ct us its ws hu hi hw => match us, hu, its, hi, ws, hw with | [_], _, [_], _, [_, _], _ => ⟨_, rfl, rfl⟩)
    exact ⟨_, h⟩
  exact ⟨{ fd_BadPart_init := fd_BadPart_init, F_BadPart_init := F_BadPart_init, b_BadPart_init := b_BadPart_init, fd_is_integer := fd_is_integer, F_is_integer := F_is_integer, b_is_integer := b_is_integer, fd_Span_init := fd_Span_init, F_Span_init := F_Span_init, fd_Span_add := fd_Span_add, F_Span_add := F_Span_add, b_Span_add := b_Span_add, fd_Span_radd := fd_Span_radd, F_Span_radd := F_Span_radd, b_Span_radd := b_Span_radd, fd_Span_sub := fd_Span_sub, F_Span_sub := F_Span_sub, b_Span_sub := b_Span_sub, fd_Span_rsub := fd_Span_rsub, F_Span_rsub := F_Span_rsub, b_Span_rsub := b_Span_rsub, fd_Span_mul := fd_Span_mul, F_Span_mul := F_Span_mul, b_Span_mul := b_Span_mul, fd_Span_rmul := fd_Span_rmul, F_Span_rmul := F_Span_rmul, b_Span_rmul := b_Span_rmul, fd_Span_floordiv := fd_Span_floordiv, F_Span_floordiv := F_Span_floordiv, b_Span_floordiv := b_Span_floordiv, fd_Span_rfloordiv := fd_Span_rfloordiv, F_Span_rfloordiv := F_Span_rfloordiv, b_Span_rfloordiv := b_Span_rfloordiv, fd_Span_mod := fd_Span_mod, F_Span_mod := F_Span_mod, b_Span_mod := b_Span_mod, fd_Span_rmod := fd_Span_rmod, F_Span_rmod := F_Span_rmod, b_Span_rmod := b_Span_rmod, fd_Span_eq := fd_Span_eq, F_Span_eq := F_Span_eq, b_Span_eq := b_Span_eq, fd_Span_lt := fd_Span_lt, F_Span_lt := F_Span_lt, b_Span_lt := b_Span_lt, fd_Span_le := fd_Span_le, F_Span_le := F_Span_le, b_Span_le := b_Span_le, fd_Span_gt := fd_Span_gt, F_Span_gt := F_Span_gt, b_Span_gt := b_Span_gt, fd_Span_ge := fd_Span_ge, F_Span_ge := F_Span_ge, b_Span_ge := b_Span_ge, fd_floored := fd_floored, F_floored := F_floored, b_floored := b_floored, fd_plain := fd_plain, F_plain := F_plain, b_plain := b_plain, fd_halves := fd_halves, F_halves := F_halves, b_halves := b_halves, fd_sum := fd_sum, F_sum := F_sum, b_sum := b_sum, fd_difference := fd_difference, F_difference := F_difference, b_difference := b_difference, fd_product := fd_product, F_product := F_product, b_product := b_product, fd_quotient := fd_quotient, F_quotient := F_quotient, b_quotient := b_quotient, fd_remainder := fd_remainder, F_remainder := F_remainder, b_remainder := b_remainder, fd_gap := fd_gap, F_gap := F_gap, b_gap := b_gap, fd_l_fresh := fd_l_fresh, F_l_fresh := F_l_fresh, b_l_fresh := b_l_fresh, fd_l_fill := fd_l_fill, F_l_fill := F_l_fill, b_l_fill := b_l_fill, fd_l_take := fd_l_take, F_l_take := F_l_take, b_l_take := b_l_take, fd_l_one := fd_l_one, F_l_one := F_l_one, b_l_one := b_l_one, fd_l_same := fd_l_same, F_l_same := F_l_same, b_l_same := b_l_same, fd_l_low := fd_l_low, F_l_low := F_l_low, b_l_low := b_l_low, fd_l_figure := fd_l_figure, F_l_figure := F_l_figure, b_l_figure := b_l_figure, fd_l_fraction := fd_l_fraction, F_l_fraction := F_l_fraction, b_l_fraction := b_l_fraction, fd_l_odd := fd_l_odd, F_l_odd := F_l_odd, b_l_odd := b_l_odd, fd_l_tried := fd_l_tried, F_l_tried := F_l_tried, b_l_tried := b_l_tried, fd_l_behind := fd_l_behind, F_l_behind := F_l_behind, b_l_behind := b_l_behind, fd_l_ahead := fd_l_ahead, F_l_ahead := F_l_ahead, b_l_ahead := b_l_ahead, fd_l_is_refused := fd_l_is_refused, F_l_is_refused := F_l_is_refused, b_l_is_refused := b_l_is_refused, fd_law := fd_law, F_law := F_law, b_law := b_law, g_is_integer := He.glo_ok X G (c.fact 0 (f := .glo "is_integer") rfl), m_Span_add := He.meth_ok (c.fact 1 (f := .meth "Span" "__add__") rfl), m_Span_radd := He.meth_ok (c.fact 2 (f := .meth "Span" "__radd__") rfl), m_Span_sub := He.meth_ok (c.fact 3 (f := .meth "Span" "__sub__") rfl), m_Span_rsub := He.meth_ok (c.fact 4 (f := .meth "Span" "__rsub__") rfl), m_Span_mul := He.meth_ok (c.fact 5 (f := .meth "Span" "__mul__") rfl), m_Span_rmul := He.meth_ok (c.fact 6 (f := .meth "Span" "__rmul__") rfl), m_Span_floordiv := He.meth_ok (c.fact 7 (f := .meth "Span" "__floordiv__") rfl), m_Span_rfloordiv := He.meth_ok (c.fact 8 (f := .meth "Span" "__rfloordiv__") rfl), m_Span_mod := He.meth_ok (c.fact 9 (f := .meth "Span" "__mod__") rfl), m_Span_rmod := He.meth_ok (c.fact 10 (f := .meth "Span" "__rmod__") rfl), m_Span_eq := He.meth_ok (c.fact 11 (f := .meth "Span" "__eq__") rfl), m_Span_lt := He.meth_ok (c.fact 12 (f := .meth "Span" "__lt__") rfl), m_Span_le := He.meth_ok (c.fact 13 (f := .meth "Span" "__le__") rfl), m_Span_gt := He.meth_ok (c.fact 14 (f := .meth "Span" "__gt__") rfl), m_Span_ge := He.meth_ok (c.fact 15 (f := .meth "Span" "__ge__") rfl), g_floored := He.glo_ok X G (c.fact 16 (f := .glo "floored") rfl), g_plain := He.glo_ok X G (c.fact 17 (f := .glo "plain") rfl), g_halves := He.glo_ok X G (c.fact 18 (f := .glo "_halves") rfl), g_sum := He.glo_ok X G (c.fact 19 (f := .glo "_sum") rfl), g_difference := He.glo_ok X G (c.fact 20 (f := .glo "_difference") rfl), g_product := He.glo_ok X G (c.fact 21 (f := .glo "_product") rfl), g_quotient := He.glo_ok X G (c.fact 22 (f := .glo "_quotient") rfl), g_remainder := He.glo_ok X G (c.fact 23 (f := .glo "_remainder") rfl), g_gap := He.glo_ok X G (c.fact 24 (f := .glo "_gap") rfl), g_l_fresh := He.glo_ok X G (c.fact 25 (f := .glo "_law_fresh") rfl), g_l_fill := He.glo_ok X G (c.fact 26 (f := .glo "_law_fill") rfl), g_l_take := He.glo_ok X G (c.fact 27 (f := .glo "_law_take") rfl), g_l_one := He.glo_ok X G (c.fact 28 (f := .glo "_law_one") rfl), g_l_same := He.glo_ok X G (c.fact 29 (f := .glo "_law_same") rfl), g_l_low := He.glo_ok X G (c.fact 30 (f := .glo "_law_low") rfl), g_l_figure := He.glo_ok X G (c.fact 31 (f := .glo "_law_figure") rfl), g_l_fraction := He.glo_ok X G (c.fact 32 (f := .glo "_law_fraction") rfl), g_l_odd := He.glo_ok X G (c.fact 33 (f := .glo "_law_odd") rfl), g_l_tried := He.glo_ok X G (c.fact 34 (f := .glo "_law_tried") rfl), g_l_behind := He.glo_ok X G (c.fact 35 (f := .glo "_law_behind") rfl), g_l_ahead := He.glo_ok X G (c.fact 36 (f := .glo "_law_ahead") rfl), g_l_is_refused := He.glo_ok X G (c.fact 37 (f := .glo "_law_is_refused") rfl), g_law := He.glo_ok X G (c.fact 38 (f := .glo "law") rfl), n_len := He.free_ok X G (c.fact 39 (f := .free "len") rfl), n_int := He.free_ok X G (c.fact 40 (f := .free "int") rfl), n_abs := He.free_ok X G (c.fact 41 (f := .free "abs") rfl), n_range := He.free_ok X G (c.fact 42 (f := .free "range") rfl), n_enumerate := He.free_ok X G (c.fact 43 (f := .free "enumerate") rfl), n_isinstance := He.free_ok X G (c.fact 44 (f := .free "isinstance") rfl), n_all := He.free_ok X G (c.fact 45 (f := .free "all") rfl), n_any := He.free_ok X G (c.fact 46 (f := .free "any") rfl), n_zip := He.free_ok X G (c.fact 47 (f := .free "zip") rfl), n_bool := He.free_ok X G (c.fact 48 (f := .free "bool") rfl), n_list := He.free_ok X G (c.fact 49 (f := .free "list") rfl), n_tuple := He.free_ok X G (c.fact 50 (f := .free "tuple") rfl), n_str := He.free_ok X G (c.fact 51 (f := .free "str") rfl), g_Span := He.glo_ok X G (c.fact 52 (f := .glo "Span") rfl), c_Span := He.cls_ok (c.fact 53 (f := .cls "Span") rfl), k_Span := He.mkr_ok (c.fact 54 (f := .mkr "Span") rfl), g_BadPart := He.glo_ok X G (c.fact 55 (f := .glo "BadPart") rfl), a_BadPart_part := He.noat_ok (c.fact 56 (f := .noat "BadPart" "part") rfl), a_Span_over := He.noat_ok (c.fact 57 (f := .noat "Span" "over") rfl), a_Span_under := He.noat_ok (c.fact 58 (f := .noat "Span" "under") rfl), g_gcd := PySem.W.mg_of X G (of_decide_eq_true (c.chk 0 rfl)), i_Span := Lt.insT_of (He.cls_ok (c.fact 53 (f := .cls "Span") rfl)) (c.chk 1 rfl), q_int_Span := of_decide_eq_true (c.chk 2 rfl), q_bool_Span := of_decide_eq_true (c.chk 3 rfl), q_str_Span := of_decide_eq_true (c.chk 4 rfl), q_list_Span := of_decide_eq_true (c.chk 5 rfl), q_tuple_Span := of_decide_eq_true (c.chk 6 rfl), q_dict_Span := of_decide_eq_true (c.chk 7 rfl), q_NoneType_Span := of_decide_eq_true (c.chk 8 rfl), q_Span_int := of_decide_eq_true (c.chk 9 rfl), q_Span_bool := of_decide_eq_true (c.chk 10 rfl), q_Span_list := of_decide_eq_true (c.chk 11 rfl), q_Span_tuple := of_decide_eq_true (c.chk 12 rfl), q_Span_str := of_decide_eq_true (c.chk 13 rfl), q_Span_Span := of_decide_eq_true (c.chk 14 rfl), ne_Span := of_decide_eq_true (c.chk 15 rfl), ob_Span := of_decide_eq_true (c.chk 16 rfl), su_NoneType := of_decide_eq_true (c.chk 17 rfl), nf_NoneType := of_decide_eq_true (c.chk 18 rfl), su_bool := of_decide_eq_true (c.chk 19 rfl), nf_bool := of_decide_eq_true (c.chk 20 rfl), su_str := of_decide_eq_true (c.chk 21 rfl), nf_str := of_decide_eq_true (c.chk 22 rfl), su_list := of_decide_eq_true (c.chk 23 rfl), nf_list := of_decide_eq_true (c.chk 24 rfl), su_tuple := of_decide_eq_true (c.chk 25 rfl), nf_tuple := of_decide_eq_true (c.chk 26 rfl), su_dict := of_decide_eq_true (c.chk 27 rfl), nf_dict := of_decide_eq_true (c.chk 28 rfl), su_int := of_decide_eq_true (c.chk 29 rfl), nf_int := of_decide_eq_true (c.chk 30 rfl), nf_Span := of_decide_eq_true (c.chk 31 rfl), fi_add := of_decide_eq_true (c.chk 32 rfl), fi_radd := of_decide_eq_true (c.chk 33 rfl), fi_sub := of_decide_eq_true (c.chk 34 rfl), fi_rsub := of_decide_eq_true (c.chk 35 rfl), fi_mul := of_decide_eq_true (c.chk 36 rfl), fi_rmul := of_decide_eq_true (c.chk 37 rfl), fi_floordiv := of_decide_eq_true (c.chk 38 rfl), fi_rfloordiv := of_decide_eq_true (c.chk 39 rfl), fi_mod := of_decide_eq_true (c.chk 40 rfl), fi_rmod := of_decide_eq_true (c.chk 41 rfl), sf_Span := of_decide_eq_true (c.chk 42 rfl), is_Span := of_decide_eq_true (c.chk 43 rfl), od_add := (c.chk 44 rfl), od_sub := (c.chk 45 rfl), od_mul := (c.chk 46 rfl), od_floordiv := (c.chk 47 rfl), od_mod := (c.chk 48 rfl), tabN := of_decide_eq_true (c.chk 49 rfl), x_BadPart := Lt.exK_of (c.chk 50 rfl), b_Span_init1 := b_Span_init1, b_Span_init2 := b_Span_init2, kb_Span_init_under_over := kb_Span_init_under_over }⟩
def loose0 : List Str := ["_wall", "LoopError", "BadPart", "is_integer", "Span", "floored", "plain", "_halves", "_sum", "_difference", "_product", "_quotient", "_remainder", "_gap", "_law_fresh", "_law_fill", "_law_take", "_law_one", "_law_same", "_law_low", "_law_figure", "_law_fraction", "_law_odd", "_law_tried", "_law_behind", "_law_ahead", "_law_is_refused"]
def loose : List Str := loose0
abbrev R : PySem.W.OpenRow := PySem.W.OpenLaw.row PySem.Challenge.rw_looptimes_k04_spans_refused
abbrev hk : PySem.W.Hook := He.hookX 5 fa fn [] tf (Lt.allF fs)
def ob (s : PySem.W.SharedT) : He.AlX := He.obsX 5 fa fn [] tf (Lt.allF fs) (HandSHeadRun.getT s)
theorem ob_eq (s : PySem.W.SharedT) : ob s = hk.obs s.abs := He.obsX_eq (HandSHeadRun.getT_eq s)
theorem run (w : World) : HandSHeadRun.RunEqI R (PySem.W.view R.prog [0, 32]) hk ob 4000 loose w := by
  unfold HandSHeadRun.RunEqI
  kernel_rfl

section
local macro_rules | `(tactic| walk_at "subl") => `(tactic| first | with_reducible exact List.nil_sublist _ | with_reducible exact List.Sublist.refl _ | (with_reducible refine List.Sublist.cons₂ _ ?_; walk_at "subl") | (with_reducible refine List.Sublist.cons _ ?_; walk_at "subl"))
local macro_rules | `(tactic| walk_at "k") => `(tactic| try dsimp only [L2.cxOf, L2.Cx.nox, L2.Cx.wish, L2.Cx.blk])
local macro_rules | `(tactic| walk_at "ask") => `(tactic| fail)
local macro_rules | `(tactic| walk_at "mem") => `(tactic| first | with_reducible exact List.mem_cons_self | (with_reducible apply List.mem_cons_of_mem; walk_at "mem"))
local macro_rules | `(tactic| walk_at "put") => `(tactic| first | with_reducible exact Lt.Put.head | (with_reducible apply Lt.Put.tail; walk_at "put"))
local macro_rules | `(tactic| walk_at "own") => `(tactic| first | exact Or.inr (by assumption) | exact Or.inl (by walk_at "mem"))
local macro_rules | `(tactic| walk_at "cnd") => `(tactic| first | assumption | decide | ((try dsimp only); omega) | (unfold CMul; omega) | (unfold CDiv; omega) | (unfold CPow; omega) | exact Or.inr (by decide) | exact Or.inl (by decide) | exact wide_div (b := 128) (by omega) (by omega) (by decide) (by decide))
local macro_rules | `(tactic| walk_at "at") => `(tactic| first | exact rfl | assumption)
local macro_rules | `(tactic| walk_at "kit") => `(tactic| first | assumption | exact kit_int_int | exact kit_int_bool | exact kit_int_str | exact kit_int_list | exact kit_int_tuple | exact kit_int_dict | exact kit_bool_int | exact kit_bool_bool | exact kit_bool_str | exact kit_bool_list | exact kit_bool_tuple | exact kit_bool_dict | exact kit_str_int | exact kit_str_bool | exact kit_str_str | exact kit_str_list | exact kit_str_tuple | exact kit_str_dict | exact kit_list_int | exact kit_list_bool | exact kit_list_str | exact kit_list_list | exact kit_list_tuple | exact kit_list_dict | exact kit_tuple_int | exact kit_tuple_bool | exact kit_tuple_str | exact kit_tuple_list | exact kit_tuple_tuple | exact kit_tuple_dict | exact kit_dict_int | exact kit_dict_bool | exact kit_dict_str | exact kit_dict_list | exact kit_dict_tuple | exact kit_dict_dict | exact kit_NoneType_int | exact kit_NoneType_bool | exact kit_NoneType_str | exact kit_NoneType_list | exact kit_NoneType_tuple | exact kit_NoneType_dict)
local macro_rules | `(tactic| walk_at "kitA") => `(tactic| first | assumption | exact kitA_lt_int | exact kitA_lt_bool | exact kitA_lt_str | exact kitA_lt_list | exact kitA_lt_tuple | exact kitA_lt_dict | exact kitA_lt_NoneType | exact kitA_bilt_int | exact kitA_bilt_bool | exact kitA_bilt_str | exact kitA_bilt_list | exact kitA_bilt_tuple | exact kitA_bilt_dict | exact kitA_bilt_NoneType)
local macro_rules | `(tactic| walk_at "ty") => `(tactic| first | exact .base (.int _) | exact .base (.bl _) | exact .base (.str _) | exact .base .non | exact .base (.lst (Stt.get (by assumption) (by walk_at "mem"))) | exact .base (.tup (Stt.get (by assumption) (by walk_at "mem"))) | exact .base (.dK (Stt.get (by assumption) (by walk_at "mem"))) | exact sqL_ty (Stt.upL (by assumption) (by assumption)) | exact sqT_ty (Stt.upT (by assumption) (by assumption)) | exact InsT.ty (by assumption) (Stt.get (by assumption) (by walk_at "mem")) | assumption)
local macro_rules | `(tactic| walk_at "rd1") => `(tactic| first
  | with_reducible refine' Rd.seq ?_
  | with_reducible refine' Rd.asg ?_
  | ((with_reducible refine' Rd.var ?vh ?_); (case vh => exact rfl))
  | with_reducible refine' Rd.con ?_
  | with_reducible refine' Rd.op ?_
  | with_reducible refine' Rd.i0 ?_
  | ((with_reducible refine' Rd.ic ?vh ?_); (case vh => walk_at "cnd"))
  | ((with_reducible refine' Rd.ixL ?v1 ?v2 ?v3 ?_); (case v1 => assumption); (case v2 => walk_at "mem"); (case v3 => walk_at "at"))
  | ((with_reducible refine' Rd.ixT ?v1 ?v2 ?v3 ?_); (case v1 => assumption); (case v2 => walk_at "mem"); (case v3 => walk_at "at"))
  | ((with_reducible refine' Rd.ixD2 ?v1 ?v2 ?_); (case v1 => assumption); (case v2 => walk_at "mem"); intro _)
  | ((with_reducible refine' Rd.ixD3 ?v1 ?v2 ?_); (case v1 => assumption); (case v2 => walk_at "mem"); intro _)
  | ((with_reducible refine' Rd.setD2 ?v1 ?v2 ?v3 ?v4 ?_); (case v1 => assumption); (case v2 => walk_at "mem"); (case v3 => walk_at "put"); (case v4 => walk_at "own"); intro _ _)
  | ((with_reducible refine' Rd.isi ?v1 ?v2 ?v3 ?_); (case v1 => walk_at "ty"); (case v2 => first | exact ClsV.ty _ | exact ClsV.own _); (case v3 => walk_at "kit"))
  | with_reducible refine' Rd.fld ?_
  | ((with_reducible refine' Rd.fldI ?v1 ?v2 ?v3 ?v4 ?v5 ?_); (case v1 => assumption); (case v2 => walk_at "mem"); (case v3 => assumption); (case v4 => assumption); (case v5 => walk_at "at"))
  | with_reducible refine' Rd.sfld ?_
  | ((with_reducible refine' Rd.sfldI ?v1 ?v2 ?v3 ?v4 ?v5 ?v6 ?v7 ?_); (case v1 => assumption); (case v2 => walk_at "mem"); (case v3 => assumption); (case v4 => assumption); (case v5 => first | decide | (refine Nat.lt_of_le_of_lt (putF_len _ _ _) ?_; decide)); (case v6 => walk_at "put"); (case v7 => walk_at "own"); intro _ _)
  | with_reducible refine' Rd.make ?_
  | with_reducible refine' Rd.gcd ?_
  | with_reducible refine' Rd.cons ?_
  | with_reducible refine' Rd.nil ?_
  | with_reducible refine' Rd.cb ?_
  | with_reducible refine' Rd.intI ?_
  | with_reducible refine' Rd.absI ?_
  | ((with_reducible refine' Rd.lenL ?v1 ?v2 ?_); (case v1 => assumption); (case v2 => walk_at "mem"))
  | ((with_reducible refine' Rd.lenT ?v1 ?v2 ?_); (case v1 => assumption); (case v2 => walk_at "mem"))
  | ((with_reducible refine' Rd.lenBL ?v1 ?v2 ?v3 ?_); (case v1 => assumption); (case v2 => assumption); (case v3 => first | exact List.not_mem_nil | assumption))
  | ((with_reducible refine' Rd.lenBT ?v1 ?v2 ?v3 ?_); (case v1 => assumption); (case v2 => assumption); (case v3 => first | exact List.not_mem_nil | assumption))
  | ((with_reducible refine' Rd.ixBL ?v1 ?v2 ?v4 ?v3 ?_); (case v1 => assumption); (case v2 => assumption); (case v4 => first | exact List.not_mem_nil | assumption); (case v3 => walk_at "at"))
  | ((with_reducible refine' Rd.ixBT ?v1 ?v2 ?v4 ?v3 ?_); (case v1 => assumption); (case v2 => assumption); (case v4 => first | exact List.not_mem_nil | assumption); (case v3 => walk_at "at"))
  | ((with_reducible refine' Rd.brI ?vh ?_); (case vh => with_reducible exact rfl))
  | with_reducible refine' Rd.ifS ?_
  | with_reducible refine' Rd.test ?_
  | with_reducible refine' Rd.tbl ?_
  | with_reducible refine' Rd.bl ?_
  | with_reducible refine' Rd.brTT ?_
  | with_reducible refine' Rd.brFF ?_
  | with_reducible refine' Rd.brN ?_
  | ((with_reducible refine' Rd.aug ?vh ?_); (case vh => exact rfl))
  | with_reducible refine' Rd.ipI ?_
  | with_reducible refine' Rd.blV ?_
  | with_reducible refine' Rd.notVL ?_
  | with_reducible refine' Rd.andT ?_
  | with_reducible refine' Rd.orT ?_
  | with_reducible refine' Rd.notT ?_
  | with_reducible refine' Rd.andV ?_
  | with_reducible refine' Rd.orV ?_
  | with_reducible refine' Rd.notV ?_
  | with_reducible refine' Rd.ifE ?_
  | ((with_reducible refine' Rd.eqS ?vh ?_); (case vh => exact rfl))
  | ((with_reducible refine' Rd.neS ?vh ?_); (case vh => exact rfl))
  | with_reducible refine' Rd.par ?_
  | with_reducible refine' Rd.parL ?_
  | with_reducible refine' Rd.un ?_
  | with_reducible refine' Rd.u1 ?_
  | with_reducible refine' Rd.sub ?_
  | ((with_reducible refine' Rd.setL ?v1 ?v2 ?v3 ?v4 ?v5 ?_); (case v1 => assumption); (case v2 => walk_at "mem"); (case v3 => walk_at "at"); (case v4 => walk_at "put"); (case v5 => walk_at "own"); intro _ _)
  | with_reducible refine' Rd.tup ?_
  | with_reducible refine' Rd.lst ?_
  | ((with_reducible refine' Rd.tupN ?v1 ?v2 ?_); (case v1 => assumption); (case v2 => simp only [List.length_cons, List.length_nil]; decide); intro _ _ _ _)
  | ((with_reducible refine' Rd.lstN ?v1 ?v2 ?_); (case v1 => assumption); (case v2 => simp only [List.length_cons, List.length_nil]; decide); intro _ _ _ _)
  | with_reducible refine' Rd.ret ?_
  | with_reducible refine' Rd.drop ?_
  | with_reducible refine' Rd.retN ?_
  | with_reducible refine' Rd.next ?_
  | with_reducible refine' Rd.brk ?_
  | with_reducible refine' Rd.cont ?_
  | with_reducible refine' Rd.call ?_
  | walk_at "ask"
  | with_reducible refine' Rd.bm ?_
  | ((with_reducible refine' Rd.bmL ?v1 ?v2 ?_); (case v1 => assumption); (case v2 => walk_at "mem"))
  | ((with_reducible refine' Rd.app ?v1 ?v2 ?v3 ?v4 ?v5 ?_); (case v1 => assumption); (case v2 => walk_at "mem"); (case v3 => simp only [List.length_cons, List.length_nil, List.length_append]; omega); (case v4 => walk_at "put"); (case v5 => walk_at "own"); intro _ _)
  | with_reducible refine' Rd.asgT ?_
  | ((with_reducible refine' Rd.gtup ?v1 ?v2 ?v3 ?_); (case v1 => assumption); (case v2 => walk_at "mem"); (case v3 => exact rfl))
  | with_reducible refine' Rd.gcons ?_
  | with_reducible refine' Rd.gname ?_
  | with_reducible refine' Rd.gnil ?_
  | with_reducible refine' Rd.sl ?_
  | with_reducible refine' Rd.noPart ?_
  | with_reducible refine' Rd.part ?_
  | with_reducible refine' Rd.prt ?_
  | with_reducible refine' Rd.isB ?_
  | ((with_reducible refine' Rd.wp ?vh ?_); (case vh => exact rfl))
  | with_reducible refine' Rd.makeK ?_
  | with_reducible refine' Rd.meth ?_
  | ((with_reducible refine' Rd.catL ?v1 ?v2 ?v3 ?v4 ?_); (case v1 => assumption); (case v2 => walk_at "mem"); (case v3 => walk_at "mem"); (case v4 => simp only [List.length_cons, List.length_nil, List.length_append]; omega); intro _ _ _ _)
  | with_reducible refine' Rd.dnew ?_
  | ((with_reducible refine' Rd.dnewL ?v1 ?_); (case v1 => assumption); intro _ _ _ _)
  | with_reducible refine' Rd.lc ?_
  | with_reducible refine' Rd.wZ ?_
  | with_reducible refine' Rd.tYesH ?_
  | with_reducible refine' Rd.fmt ?_
  | with_reducible refine' Rd.joined ?_
  | with_reducible refine' Rd.jsNil ?_
  | with_reducible refine' Rd.jsCons ?_
  | ((with_reducible refine' Rd.isiT ?v1 ?v2 ?v3 ?v4 ?v5 ?_); (case v1 => assumption); (case v2 => walk_at "mem"); (case v3 => walk_at "ty"); (case v4 => first | exact .cons (.ty _) (.cons (.ty _) .nil) | exact .cons (.ty _) (.cons (.ty _) (.cons (.ty _) (.cons (.ty _) .nil))) | exact .cons (.ty _) (.cons (.ty _) (.cons (.ty _) .nil))); (case v5 => walk_at "kitA"))
  | with_reducible refine' Rd.forS ?_
  | with_reducible refine' Rd.wEnT ?_
  | ((with_reducible refine' Rd.wEnTL ?v1 ?v2 ?_); (case v1 => assumption); (case v2 => walk_at "mem"))
  | with_reducible refine' Rd.wL ?_
  | ((with_reducible refine' Rd.wLL ?v1 ?v2 ?_); (case v1 => assumption); (case v2 => walk_at "mem"))
  | with_reducible refine' Rd.wT ?_
  | ((with_reducible refine' Rd.wTL ?v1 ?v2 ?_); (case v1 => assumption); (case v2 => walk_at "mem"))
  | with_reducible refine' Rd.wR1 ?_
  | ((with_reducible refine' Rd.wR1L ?v1 ?v2 ?_); (case v1 => omega); (case v2 => omega))
  | with_reducible refine' Rd.wR2 ?_
  | ((with_reducible refine' Rd.wR2L ?v1 ?_); (case v1 => omega)))
local macro_rules | `(tactic| walk_at "rd") => `(tactic| repeat (walk_at "rd1"))

section
variable {P : Program} {w : World} {K : PySem.W.Frag} {mg : Str → Option Value} {base : Heap}
/-! ### the draws -/
def spFresh (K : PySem.W.Frag) : Sp := fun vs H Q _ => ∃ (a : Addr) (ns : List Int), vs = [.ref a] ∧ SqL K H a (ns.map V.int) ∧ ns.length ≤ 63 ∧ ∀ st c ms H', H st = none → Stt H [] (dled st c ms) H' → ms.length ≤ 63 → Q (.ref st) H'
theorem ok_l_fresh (T : Txt K mg) : FnOk P w K mg base CX0 1 (He.fAd K ("_law_fresh", none)) T.fd_l_fresh ["_law_script"] (spFresh K) := by
  refine T.F_l_fresh.ok sc_l_fresh (fun vs H Q E h => ?_) (fun cdv A outer s H vs Q E hr h => ?_)
  · obtain ⟨a, ns, rfl, _⟩ := h
    rfl
  · obtain ⟨a, ns, rfl, hS, hl, k⟩ := h
    refine ⟨_, PSs.nox (pss_one (ps_ret (pe_lst (pa_cons (pe_slice sl_list (pv 0) po_none (po_some pe_int)) (pa_cons pe_int (pa_cons pe_int (pa_cons pe_bl pa_nil))))))), ?_⟩
    walk_at "k"
    have s0 : Stt H [] [] H := Stt.nil
    walk_at "rd"
    refine ⟨a, _, rfl, hS, fun p hp => ?_⟩
    have ec : cutV (ns.map V.int) none (some 63) = (ns.take 63).map V.int := by
      unfold cutV
      simp [HT.sIx]
    rw [ec]
    have s1 := s0.new hp (.lst ((ns.take 63).map V.int))
    generalize upd H p (HO.lst ((ns.take 63).map V.int)) = H1 at s1 ⊢
    walk_at "rd"
    refine k _ p (ns.take 63) _ (by assumption) (Stt.re (f := DrS p) (by assumption) .head ⟨_, Stt.get (by assumption) (by walk_at "mem"), 0, 0, false, rfl⟩) ?_
    rw [List.length_take]
    omega
def spFill : Sp := fun vs H Q _ => ∃ (st c : Addr) (ns : List Int), vs = [.ref st] ∧ Stt H [st] (dled st c ns) H ∧ ns.length ≤ 63 ∧ ∀ H', Stt H [st] (dled st c ns) H' → Q .non H'
theorem ok_l_fill (T : Txt K mg) : FnOk P w K mg base CX0 1 (He.fAd K ("_law_fill", none)) T.fd_l_fill ["_law_state"] spFill := by
  refine T.F_l_fill.ok sc_l_fill (fun vs H Q E h => ?_) (fun cdv A outer s H vs Q E hr h => ?_)
  · obtain ⟨st, c, ns, rfl, _⟩ := h
    rfl
  · obtain ⟨st, c, ns, rfl, s0, hl, k⟩ := h
    refine ⟨_, PSs.nox (pss_cons (ps_par (i := 1) (j := 2) (by rfl) sc_l_fill.nd rfl rfl (by decide) rfl rfl (pa_cons (pe_ix ix_list (pv 0) pe_int (fun _ _ => rfl)) (pa_cons (pe_ix ix_list (pv 0) pe_int (fun _ _ => rfl)) pa_nil)) (by rfl))
  (pss_cons (ps_asg (pe_op op_add (pe_op op_mul pe_int (pv 2)) pe_int) (pg_name (i := 3) sc_l_fill.nd rfl (by first | exact Or.inl rfl | exact Or.inr rfl)))
  (C8.pss_cut (ps_if (pt_cmpR op_gt (pe_callB call_lenQ (by rfl) T.n_len PySem.boot_len (pa_cons (pv 1) pa_nil)) pe_int (nomark _)) (pss_one (ps_asg (pe_op op_add (pe_op op_mul pe_int (pe_op op_fdiv (pv 2) (pe_callB call_lenQ (by rfl) T.n_len PySem.boot_len (pa_cons (pv 1) pa_nil)))) (pe_ix ix_list (pv 1) (pe_op op_mod (pe_callTy call_intQ (by rfl) T.n_int (by decide +kernel) (pa_cons (pv 2) pa_nil)) (pe_callB call_lenQ (by rfl) T.n_len PySem.boot_len (pa_cons (pv 1) pa_nil))) (fun _ _ => rfl))) (pg_name (i := 3) sc_l_fill.nd rfl (by first | exact Or.inl rfl | exact Or.inr rfl))))
   pss_nil)
  (pss_cons (ps_asg (pe_op op_add (pv 2) pe_int) (pg_sub (pv 0) pe_int set_list))
  (C8.pss_cut (ps_asg (pe_or (pe_cmpR op_ge (pv 2) (pe_callB call_lenQ (by rfl) T.n_len PySem.boot_len (pa_cons (pv 1) pa_nil)) (nomark _)) (pe_one (pe_cmpR op_lt (pv 3) (pe_op op_pow pe_int pe_int) (nomark _)))) (pg_sub (pv 0) pe_int set_list))
  (pss_cons (ps_asg (pe_op op_sub (pv 3) (pe_op op_pow pe_int pe_int)) (pg_sub (pv 0) pe_int set_list))
  (pss_one (ps_if (pt_val (pe_ix ix_list (pv 0) pe_int (fun _ _ => rfl))) (pss_cons (ps_asg pe_int (pg_sub (pv 0) pe_int set_list))
  (pss_one (ps_for PassesOwn.never rfl (pi_enumT (by rfl) T.n_enumerate (pa_cons (pe_tup (pa_cons pe_int (pa_cons pe_int (pa_cons pe_int (pa_cons pe_int (pa_cons pe_int pa_nil)))))) pa_nil)) (pg_tup (by rfl) (pgs_cons (pg_name (i := 4) sc_l_fill.nd rfl (by first | exact Or.inl rfl | exact Or.inr rfl)) (pgs_cons (pg_name (i := 5) sc_l_fill.nd rfl (by first | exact Or.inl rfl | exact Or.inr rfl)) pgs_nil)))
   (pss_cons (ps_asg (pe_op op_mod (pe_callTy call_intQ (by rfl) T.n_int (by decide +kernel) (pa_cons (pe_op op_mul (pe_op op_add (pe_op op_add (pv 3) (pe_op op_mul (pe_op op_mul pe_int (pv 4)) (pv 4))) (pe_op op_mul pe_int (pv 4))) (pe_op op_add pe_int (pe_op op_mul pe_int (pv 4)))) pa_nil)) (pv 5)) (pg_name (i := 6) sc_l_fill.nd rfl (by first | exact Or.inl rfl | exact Or.inr rfl)))
  (pss_one (ps_asg (pe_op op_add (pe_op op_mul (pe_ix ix_list (pv 0) pe_int (fun _ _ => rfl)) (pv 5)) (pe_op op_mod (pe_callTy call_intQ (by rfl) T.n_int (by decide +kernel) (pa_cons (pe_op op_pow (pv 6) pe_int) pa_nil)) (pv 5))) (pg_sub (pv 0) pe_int set_list)))))))
   pss_nil)))))))), ?_⟩
    walk_at "k"
    obtain ⟨o, h1, nth, val, fl, rfl⟩ := s0.pick (a := st) (f := DrS c) (by walk_at "mem")
    have s1 : Stt H [st] [(st, Is (.lst [.ref c, .int nth, .int val, .bl fl])), (c, Is (.lst (ns.map V.int)))] H := s0.re .head ⟨_, h1, rfl⟩
    have fin : ∀ (H' : Hp) (a b : Int) (d : Bool), Stt H [st] [(st, Is (.lst [.ref c, .int a, .int b, .bl d])), (c, Is (.lst (ns.map V.int)))] H' → Q .non H' := fun H' a b d q2 =>
      k H' (q2.re .head ⟨_, q2.get (by walk_at "mem"), a, b, d, rfl⟩)
    have hlen : (((ns.map V.int).length : Nat) : Int) = (ns.length : Int) := by rw [List.length_map]
    walk_at "rd"
    refine Rd.cut (fun σ' H' => H = H' ∧ ∃ z : Int, σ' = [some (.ref st), some (.ref c), some (.int nth), some (.int z), none, none, none]) ?_ ?_
    · walk_at "rd"
      refine Rd.brD (fun c1 => ?_) (fun c1 => ?_)
      · have hp : (0 : Int) < (((ns.map V.int).length : Nat) : Int) := c1
        obtain ⟨z, hz⟩ : ∃ z, atI (ns.map V.int) (nth % (((ns.map V.int).length : Nat) : Int)) = some (V.int z) := by
          have b0 := Int.emod_nonneg nth (Int.ne_of_gt hp)
          have b1 := Int.emod_lt_of_pos nth hp
          obtain ⟨j, hj⟩ := Int.eq_ofNat_of_zero_le b0
          have hj2 : j < ns.length := by omega
          refine ⟨ns[j], ?_⟩
          rw [hj]
          exact atI_nat (by simp [hj2])
        walk_at "rd"
        exact ⟨rfl, _, rfl⟩
      · walk_at "rd"
        exact ⟨rfl, _, rfl⟩
    · rintro σ' H' ⟨rfl, z, rfl⟩
      walk_at "rd"
      refine Rd.cut (fun σ' H' => ∃ d : Bool, σ' = [some (.ref st), some (.ref c), some (.int nth), some (.int z), none, none, none] ∧ Stt H [st] [(st, Is (.lst [.ref c, .int (nth + 1), .int val, .bl d])), (c, Is (.lst (ns.map V.int)))] H') ?_ ?_
      · walk_at "rd"
        refine Rd.brD (fun c1 => ?_) (fun c1 => ?_)
        · walk_at "rd"
          exact ⟨_, rfl, by assumption⟩
        · walk_at "rd"
          exact ⟨_, rfl, by assumption⟩
      · rintro σ' H' ⟨d, rfl, s3⟩
        walk_at "rd"
        refine Rd.br (fun c1 => ?_) (fun c1 => ?_)
        · walk_at "rd"
          have hpr : ∀ x ∈ ([.int 2147483647, .int 2147483629, .int 2147483587, .int 2147483579, .int 2147483563] : List V), ∃ z : Int, x = .int z ∧ 0 < z ∧ z < 2147483648 := by
            intro x hx
            simp only [List.mem_cons, List.not_mem_nil, or_false] at hx
            rcases hx with rfl | rfl | rfl | rfl | rfl <;> exact ⟨_, rfl, by decide, by decide⟩
          rename_i p _ _ _
          refine Rd.loop (walk_enumT (xs := [.int 2147483647, .int 2147483629, .int 2147483587, .int 2147483579, .int 2147483563])) (fun i σ H' => ∃ (v4 v5 v6 : Option V) (b : Int), σ = [some (.ref st), some (.ref c), some (.int nth), some (.int z), v4, v5, v6] ∧
            Stt H [st] [(p, Is (.tup [.int 2147483647, .int 2147483629, .int 2147483587, .int 2147483579, .int 2147483563])), (st, Is (.lst [.ref c, .int (nth + 1), .int b, .bl d])), (c, Is (.lst (ns.map V.int)))] H') ⟨_, _, _, _, rfl, by assumption⟩ (fun i σ H' _ hP => ?_) ?_ ?_
          · obtain ⟨_, _, _, _, _, s4⟩ := hP
            exact s4.sqT (by walk_at "mem")
          · rintro i x σ H' H2 hi ⟨v4, v5, v6, b, rfl, s4⟩ ⟨p, x1, x2, rfl, hp, rfl, e1, e2⟩
            cases e1
            obtain ⟨pr, rfl, hp1, hp2⟩ := hpr x2 (List.mem_of_getElem? e2)
            have hi5 : i < 5 := hi
            have s5 := s4.new hp (.tup [.int (i : Int), .int pr])
            have b2 := Int.emod_nonneg ((z + 10007 * (i : Int) * (i : Int) + 101 * (i : Int)) * (48271 + 2 * (i : Int))) (show pr ≠ 0 by omega)
            have b3 := Int.emod_lt_of_pos ((z + 10007 * (i : Int) * (i : Int) + 101 * (i : Int)) * (48271 + 2 * (i : Int))) hp1
            walk_at "rd"
            exact ⟨_, _, _, _, rfl, Stt.sub (by assumption) (List.Sublist.cons _ (List.Sublist.refl _))⟩
          · rintro σ H' ⟨v4, v5, v6, b, rfl, s4⟩
            walk_at "rd"
            exact fin _ _ _ _ (s4.sub (List.Sublist.cons _ (List.Sublist.refl _)))
        · walk_at "rd"
          exact fin _ _ _ _ (by assumption)
/-- a call of a draw asks -/
def spTake : Sp := fun vs H Q _ => ∃ (st c : Addr) (ns : List Int) (m : Int), vs = [.ref st, .int m] ∧ Stt H [st] (dled st c ns) H ∧ ns.length ≤ 63 ∧ 0 < m ∧ m < 2 ^ 100 ∧ ∀ d H', 0 ≤ d → d < m → Stt H [st] (dled st c ns) H' → Q (.int d) H'
theorem fill_ask {H0 H : Hp} {S : List Addr} {l : Led} {st c : Addr} {ns : List Int} {Q : VK} {E : XK} (s : Stt H0 S l H) (m1 : (st, DrS c) ∈ l) (m2 : (c, Is (.lst (ns.map V.int))) ∈ l) (hn : ns.length ≤ 63) (hs : st ∈ S ∨ H0 st = none) (k : ∀ H', Stt H0 S l H' → Q .non H') : spFill ([.ref st] ++ []) H Q E :=
  ⟨st, c, ns, rfl, s.drawn m1 m2, hn, fun H' q => k H' (s.after1 m1 q.keep hs (q.pick (by walk_at "mem")))⟩
local macro_rules | `(tactic| walk_at "ask") => `(tactic| ((with_reducible refine' fill_ask ?v1 ?v2 ?v3 ?v4 ?v5 ?_); (case v1 => assumption); (case v2 => walk_at "mem"); (case v3 => walk_at "mem"); (case v4 => assumption); (case v5 => walk_at "own"); intro _ _))
theorem ok_l_take (T : Txt K mg) : FnOk P w K mg base CX0 2 (He.fAd K ("_law_take", none)) T.fd_l_take ["_law_state", "_law_many"] spTake := by
  refine T.F_l_take.ok sc_l_take (fun vs H Q E h => ?_) (fun cdv A outer s H vs Q E hr h => ?_)
  · obtain ⟨st, c, ns, m, rfl, _⟩ := h
    rfl
  · obtain ⟨st, c, ns, m, rfl, s0, hl, h0, h1, k⟩ := h
    refine ⟨_, PSs.nox (pss_cons (ps_asg pe_int (pg_name (i := 2) sc_l_take.nd rfl (by first | exact Or.inl rfl | exact Or.inr rfl)))
  (pss_cons (ps_while PassesOwn.never (PW.pt (pw_and (pt_cmpR op_lt (pv 2) pe_int (nomark _)) (pw_and1 (PW.pt (pw_or (pt_cmpR op_eq (pe_ix ix_list (pv 0) pe_int (fun _ _ => rfl)) pe_int (nomark _)) (pw_or1 (PW.pt (pw_and (pt_val (pe_ix ix_list (pv 0) pe_int (fun _ _ => rfl))) (pw_and1 (pt_cmpR op_lt (pe_ix ix_list (pv 0) pe_int (fun _ _ => rfl)) (pe_op op_mul (pv 1) pe_int) (nomark _))))))))))) (pss_cons (ps_expr (pe_call (ok_l_fill T) (hr.mono (by decide)) rfl T.g_l_fill T.F_l_fill.kp T.b_l_fill .nil pass0 (pa_cons (pv 0) pa_nil)))
  (pss_cons (ps_aug (i := 2) sc_l_take.nd rfl (by first | exact Or.inl rfl | exact Or.inr rfl) pe_int ip_add)
  (pss_one (ps_if (PW.pt (pw_and (pt_val (pe_ix ix_list (pv 0) pe_int (fun _ _ => rfl))) (pw_and1 (pt_cmpR op_lt (pe_ix ix_list (pv 0) pe_int (fun _ _ => rfl)) (pe_op op_mul (pv 1) pe_int) (nomark _))))) (pss_one (ps_asg (pe_op op_add (pe_ix ix_list (pv 0) pe_int (fun _ _ => rfl)) (pe_op op_mul (pe_op op_mul (pv 1) pe_int) (pe_op op_add pe_int (pe_op op_mod (pe_callTy call_intQ (by rfl) T.n_int (by decide +kernel) (pa_cons (pe_ix ix_list (pv 0) pe_int (fun _ _ => rfl)) pa_nil)) pe_int)))) (pg_sub (pv 0) pe_int set_list)))
   pss_nil)))))
  (pss_cons (ps_asg (pe_op op_mod (pe_callTy call_intQ (by rfl) T.n_int (by decide +kernel) (pa_cons (pe_ix ix_list (pv 0) pe_int (fun _ _ => rfl)) pa_nil)) (pv 1)) (pg_name (i := 3) sc_l_take.nd rfl (by first | exact Or.inl rfl | exact Or.inr rfl)))
  (pss_cons (ps_asg (pe_op op_fdivW (pe_ix ix_list (pv 0) pe_int (fun _ _ => rfl)) (pv 1)) (pg_sub (pv 0) pe_int set_list))
  (pss_one (ps_ret (pv 3))))))), ?_⟩
    walk_at "k"
    walk_at "rd"
    refine Rd.whileS (fun n σ' H' => ∃ (z : Int), σ' = [some (.ref st), some (.int m), some (.int z), none] ∧ 0 ≤ z ∧ n = (64 - z).toNat ∧ Stt H [st] (dled st c ns) H') 64 ⟨0, rfl, by decide, rfl, s0⟩ ?_
    rintro n σ' H' ⟨z, rfl, hz, rfl, s1⟩
    have body : ∀ H2, z < 64 → Stt H [st] (dled st c ns) H2 → ∃ N : L2.St → Hp → Prop, (∀ σ' H', N σ' H' → ∃ m', m' < (64 - z).toNat ∧ ∃ (z : Int), σ' = [some (.ref st), some (.int m), some (.int z), none] ∧ 0 ≤ z ∧ m' = (64 - z).toNat ∧ Stt H [st] (dled st c ns) H') ∧
        ∀ H2, Stt H [st] (dled st c ns) H2 → N [some (.ref st), some (.int m), some (.int (z + 1)), none] H2 := fun H2 hz2 _ =>
      ⟨fun σ' H' => σ' = [some (.ref st), some (.int m), some (.int (z + 1)), none] ∧ Stt H [st] (dled st c ns) H', fun σ' H' h => ⟨_, by omega, z + 1, h.1, by omega, rfl, h.2⟩, fun H2 s2 => ⟨rfl, s2⟩⟩
    have fin : ∀ (v : Int) (H5 : Hp), Stt H [st] (dled st c ns) H5 → Q (.int (v % m)) H5 := fun v H5 s5 => k _ _ (Int.emod_nonneg v (show m ≠ 0 by omega)) (Int.emod_lt_of_pos v h0) s5
    walk_at "rd"
    refine Rd.brD (fun c1 => ?_) (fun c1 => ?_)
    · obtain ⟨N, n1, n2⟩ := body H' c1 s1
      walk_at "rd"
      refine Rd.brD (fun c2 => ?_) (fun c2 => ?_)
      · walk_at "rd"
        refine ⟨N, n1, ?_⟩; walk_at "rd"; refine Rd.br (fun c3 => ?_) (fun c3 => ?_) <;> subst c3 <;> walk_at "rd"; (refine Rd.brD (fun c4 => ?_) (fun c4 => ?_) <;> walk_at "rd" <;> exact n2 _ (by assumption)); exact n2 _ (by assumption)
      · walk_at "rd"
        refine Rd.br (fun c3 => ?_) (fun c3 => ?_)
        · subst c3
          walk_at "rd"
          refine Rd.brD (fun c4 => ?_) (fun c4 => ?_)
          · walk_at "rd"
            refine ⟨N, n1, ?_⟩; walk_at "rd"; refine Rd.br (fun c3 => ?_) (fun c3 => ?_) <;> subst c3 <;> walk_at "rd"; (refine Rd.brD (fun c4 => ?_) (fun c4 => ?_) <;> walk_at "rd" <;> exact n2 _ (by assumption)); exact n2 _ (by assumption)
          · walk_at "rd"
            exact fin _ _ (by assumption)
        · subst c3
          walk_at "rd"
          exact fin _ _ (by assumption)
    · walk_at "rd"
      exact fin _ _ (by assumption)
end

end
section
local macro_rules | `(tactic| walk_at "subl") => `(tactic| first | with_reducible exact List.nil_sublist _ | with_reducible exact List.Sublist.refl _ | (with_reducible refine List.Sublist.cons₂ _ ?_; walk_at "subl") | (with_reducible refine List.Sublist.cons _ ?_; walk_at "subl"))
local macro_rules | `(tactic| walk_at "k") => `(tactic| try dsimp only [L2.cxOf, L2.Cx.nox, L2.Cx.wish, L2.Cx.blk])
local macro_rules | `(tactic| walk_at "ask") => `(tactic| fail)
local macro_rules | `(tactic| walk_at "mem") => `(tactic| first | with_reducible exact List.mem_cons_self | (with_reducible apply List.mem_cons_of_mem; walk_at "mem"))
local macro_rules | `(tactic| walk_at "put") => `(tactic| first | with_reducible exact Lt.Put.head | (with_reducible apply Lt.Put.tail; walk_at "put"))
local macro_rules | `(tactic| walk_at "own") => `(tactic| first | exact Or.inr (by assumption) | exact Or.inl (by walk_at "mem"))
local macro_rules | `(tactic| walk_at "cnd") => `(tactic| first | assumption | decide | ((try dsimp only); omega) | (unfold CMul; omega) | (unfold CDiv; omega) | (unfold CPow; omega) | exact Or.inr (by decide) | exact Or.inl (by decide) | exact wide_div (b := 128) (by omega) (by omega) (by decide) (by decide))
local macro_rules | `(tactic| walk_at "at") => `(tactic| first | exact rfl | assumption)
local macro_rules | `(tactic| walk_at "kit") => `(tactic| first | assumption | exact kit_int_int | exact kit_int_bool | exact kit_int_str | exact kit_int_list | exact kit_int_tuple | exact kit_int_dict | exact kit_bool_int | exact kit_bool_bool | exact kit_bool_str | exact kit_bool_list | exact kit_bool_tuple | exact kit_bool_dict | exact kit_str_int | exact kit_str_bool | exact kit_str_str | exact kit_str_list | exact kit_str_tuple | exact kit_str_dict | exact kit_list_int | exact kit_list_bool | exact kit_list_str | exact kit_list_list | exact kit_list_tuple | exact kit_list_dict | exact kit_tuple_int | exact kit_tuple_bool | exact kit_tuple_str | exact kit_tuple_list | exact kit_tuple_tuple | exact kit_tuple_dict | exact kit_dict_int | exact kit_dict_bool | exact kit_dict_str | exact kit_dict_list | exact kit_dict_tuple | exact kit_dict_dict | exact kit_NoneType_int | exact kit_NoneType_bool | exact kit_NoneType_str | exact kit_NoneType_list | exact kit_NoneType_tuple | exact kit_NoneType_dict)
local macro_rules | `(tactic| walk_at "kitA") => `(tactic| first | assumption | exact kitA_lt_int | exact kitA_lt_bool | exact kitA_lt_str | exact kitA_lt_list | exact kitA_lt_tuple | exact kitA_lt_dict | exact kitA_lt_NoneType | exact kitA_bilt_int | exact kitA_bilt_bool | exact kitA_bilt_str | exact kitA_bilt_list | exact kitA_bilt_tuple | exact kitA_bilt_dict | exact kitA_bilt_NoneType)
local macro_rules | `(tactic| walk_at "ty") => `(tactic| first | exact .base (.int _) | exact .base (.bl _) | exact .base (.str _) | exact .base .non | exact .base (.lst (Stt.get (by assumption) (by walk_at "mem"))) | exact .base (.tup (Stt.get (by assumption) (by walk_at "mem"))) | exact .base (.dK (Stt.get (by assumption) (by walk_at "mem"))) | exact sqL_ty (Stt.upL (by assumption) (by assumption)) | exact sqT_ty (Stt.upT (by assumption) (by assumption)) | exact InsT.ty (by assumption) (Stt.get (by assumption) (by walk_at "mem")) | assumption)
local macro_rules | `(tactic| walk_at "rd1") => `(tactic| first
  | with_reducible refine' Rd.seq ?_
  | with_reducible refine' Rd.asg ?_
  | ((with_reducible refine' Rd.var ?vh ?_); (case vh => exact rfl))
  | with_reducible refine' Rd.con ?_
  | with_reducible refine' Rd.op ?_
  | with_reducible refine' Rd.i0 ?_
  | ((with_reducible refine' Rd.ic ?vh ?_); (case vh => walk_at "cnd"))
  | ((with_reducible refine' Rd.ixL ?v1 ?v2 ?v3 ?_); (case v1 => assumption); (case v2 => walk_at "mem"); (case v3 => walk_at "at"))
  | ((with_reducible refine' Rd.ixT ?v1 ?v2 ?v3 ?_); (case v1 => assumption); (case v2 => walk_at "mem"); (case v3 => walk_at "at"))
  | ((with_reducible refine' Rd.ixD2 ?v1 ?v2 ?_); (case v1 => assumption); (case v2 => walk_at "mem"); intro _)
  | ((with_reducible refine' Rd.ixD3 ?v1 ?v2 ?_); (case v1 => assumption); (case v2 => walk_at "mem"); intro _)
  | ((with_reducible refine' Rd.setD2 ?v1 ?v2 ?v3 ?v4 ?_); (case v1 => assumption); (case v2 => walk_at "mem"); (case v3 => walk_at "put"); (case v4 => walk_at "own"); intro _ _)
  | ((with_reducible refine' Rd.isi ?v1 ?v2 ?v3 ?_); (case v1 => walk_at "ty"); (case v2 => first | exact ClsV.ty _ | exact ClsV.own _); (case v3 => walk_at "kit"))
  | with_reducible refine' Rd.fld ?_
  | ((with_reducible refine' Rd.fldI ?v1 ?v2 ?v3 ?v4 ?v5 ?_); (case v1 => assumption); (case v2 => walk_at "mem"); (case v3 => assumption); (case v4 => assumption); (case v5 => walk_at "at"))
  | with_reducible refine' Rd.sfld ?_
  | ((with_reducible refine' Rd.sfldI ?v1 ?v2 ?v3 ?v4 ?v5 ?v6 ?v7 ?_); (case v1 => assumption); (case v2 => walk_at "mem"); (case v3 => assumption); (case v4 => assumption); (case v5 => first | decide | (refine Nat.lt_of_le_of_lt (putF_len _ _ _) ?_; decide)); (case v6 => walk_at "put"); (case v7 => walk_at "own"); intro _ _)
  | with_reducible refine' Rd.make ?_
  | with_reducible refine' Rd.gcd ?_
  | with_reducible refine' Rd.cons ?_
  | with_reducible refine' Rd.nil ?_
  | with_reducible refine' Rd.cb ?_
  | with_reducible refine' Rd.intI ?_
  | with_reducible refine' Rd.absI ?_
  | ((with_reducible refine' Rd.lenL ?v1 ?v2 ?_); (case v1 => assumption); (case v2 => walk_at "mem"))
  | ((with_reducible refine' Rd.lenT ?v1 ?v2 ?_); (case v1 => assumption); (case v2 => walk_at "mem"))
  | ((with_reducible refine' Rd.lenBL ?v1 ?v2 ?v3 ?_); (case v1 => assumption); (case v2 => assumption); (case v3 => first | exact List.not_mem_nil | assumption))
  | ((with_reducible refine' Rd.lenBT ?v1 ?v2 ?v3 ?_); (case v1 => assumption); (case v2 => assumption); (case v3 => first | exact List.not_mem_nil | assumption))
  | ((with_reducible refine' Rd.ixBL ?v1 ?v2 ?v4 ?v3 ?_); (case v1 => assumption); (case v2 => assumption); (case v4 => first | exact List.not_mem_nil | assumption); (case v3 => walk_at "at"))
  | ((with_reducible refine' Rd.ixBT ?v1 ?v2 ?v4 ?v3 ?_); (case v1 => assumption); (case v2 => assumption); (case v4 => first | exact List.not_mem_nil | assumption); (case v3 => walk_at "at"))
  | ((with_reducible refine' Rd.brI ?vh ?_); (case vh => with_reducible exact rfl))
  | with_reducible refine' Rd.ifS ?_
  | with_reducible refine' Rd.test ?_
  | with_reducible refine' Rd.tbl ?_
  | with_reducible refine' Rd.bl ?_
  | with_reducible refine' Rd.brTT ?_
  | with_reducible refine' Rd.brFF ?_
  | with_reducible refine' Rd.brN ?_
  | ((with_reducible refine' Rd.aug ?vh ?_); (case vh => exact rfl))
  | with_reducible refine' Rd.ipI ?_
  | with_reducible refine' Rd.blV ?_
  | with_reducible refine' Rd.notVL ?_
  | with_reducible refine' Rd.andT ?_
  | with_reducible refine' Rd.orT ?_
  | with_reducible refine' Rd.notT ?_
  | with_reducible refine' Rd.andV ?_
  | with_reducible refine' Rd.orV ?_
  | with_reducible refine' Rd.notV ?_
  | with_reducible refine' Rd.ifE ?_
  | ((with_reducible refine' Rd.eqS ?vh ?_); (case vh => exact rfl))
  | ((with_reducible refine' Rd.neS ?vh ?_); (case vh => exact rfl))
  | with_reducible refine' Rd.par ?_
  | with_reducible refine' Rd.parL ?_
  | with_reducible refine' Rd.un ?_
  | with_reducible refine' Rd.u1 ?_
  | with_reducible refine' Rd.sub ?_
  | ((with_reducible refine' Rd.setL ?v1 ?v2 ?v3 ?v4 ?v5 ?_); (case v1 => assumption); (case v2 => walk_at "mem"); (case v3 => walk_at "at"); (case v4 => walk_at "put"); (case v5 => walk_at "own"); intro _ _)
  | with_reducible refine' Rd.tup ?_
  | with_reducible refine' Rd.lst ?_
  | ((with_reducible refine' Rd.tupN ?v1 ?v2 ?_); (case v1 => assumption); (case v2 => simp only [List.length_cons, List.length_nil]; decide); intro _ _ _ _)
  | ((with_reducible refine' Rd.lstN ?v1 ?v2 ?_); (case v1 => assumption); (case v2 => simp only [List.length_cons, List.length_nil]; decide); intro _ _ _ _)
  | with_reducible refine' Rd.ret ?_
  | with_reducible refine' Rd.drop ?_
  | with_reducible refine' Rd.retN ?_
  | with_reducible refine' Rd.next ?_
  | with_reducible refine' Rd.brk ?_
  | with_reducible refine' Rd.cont ?_
  | with_reducible refine' Rd.call ?_
  | walk_at "ask"
  | with_reducible refine' Rd.bm ?_
  | ((with_reducible refine' Rd.bmL ?v1 ?v2 ?_); (case v1 => assumption); (case v2 => walk_at "mem"))
  | ((with_reducible refine' Rd.app ?v1 ?v2 ?v3 ?v4 ?v5 ?_); (case v1 => assumption); (case v2 => walk_at "mem"); (case v3 => simp only [List.length_cons, List.length_nil, List.length_append]; omega); (case v4 => walk_at "put"); (case v5 => walk_at "own"); intro _ _)
  | with_reducible refine' Rd.asgT ?_
  | ((with_reducible refine' Rd.gtup ?v1 ?v2 ?v3 ?_); (case v1 => assumption); (case v2 => walk_at "mem"); (case v3 => exact rfl))
  | with_reducible refine' Rd.gcons ?_
  | with_reducible refine' Rd.gname ?_
  | with_reducible refine' Rd.gnil ?_
  | with_reducible refine' Rd.sl ?_
  | with_reducible refine' Rd.noPart ?_
  | with_reducible refine' Rd.part ?_
  | with_reducible refine' Rd.prt ?_
  | with_reducible refine' Rd.isB ?_
  | ((with_reducible refine' Rd.wp ?vh ?_); (case vh => exact rfl))
  | with_reducible refine' Rd.makeK ?_
  | with_reducible refine' Rd.meth ?_
  | ((with_reducible refine' Rd.catL ?v1 ?v2 ?v3 ?v4 ?_); (case v1 => assumption); (case v2 => walk_at "mem"); (case v3 => walk_at "mem"); (case v4 => simp only [List.length_cons, List.length_nil, List.length_append]; omega); intro _ _ _ _)
  | with_reducible refine' Rd.dnew ?_
  | ((with_reducible refine' Rd.dnewL ?v1 ?_); (case v1 => assumption); intro _ _ _ _)
  | with_reducible refine' Rd.lc ?_
  | with_reducible refine' Rd.wZ ?_
  | with_reducible refine' Rd.tYesH ?_
  | with_reducible refine' Rd.fmt ?_
  | with_reducible refine' Rd.joined ?_
  | with_reducible refine' Rd.jsNil ?_
  | with_reducible refine' Rd.jsCons ?_
  | ((with_reducible refine' Rd.isiT ?v1 ?v2 ?v3 ?v4 ?v5 ?_); (case v1 => assumption); (case v2 => walk_at "mem"); (case v3 => walk_at "ty"); (case v4 => first | exact .cons (.ty _) (.cons (.ty _) .nil) | exact .cons (.ty _) (.cons (.ty _) (.cons (.ty _) (.cons (.ty _) .nil))) | exact .cons (.ty _) (.cons (.ty _) (.cons (.ty _) .nil))); (case v5 => walk_at "kitA"))
  | with_reducible refine' Rd.forS ?_
  | with_reducible refine' Rd.wEnT ?_
  | ((with_reducible refine' Rd.wEnTL ?v1 ?v2 ?_); (case v1 => assumption); (case v2 => walk_at "mem"))
  | with_reducible refine' Rd.wL ?_
  | ((with_reducible refine' Rd.wLL ?v1 ?v2 ?_); (case v1 => assumption); (case v2 => walk_at "mem"))
  | with_reducible refine' Rd.wT ?_
  | ((with_reducible refine' Rd.wTL ?v1 ?v2 ?_); (case v1 => assumption); (case v2 => walk_at "mem"))
  | with_reducible refine' Rd.wR1 ?_
  | ((with_reducible refine' Rd.wR1L ?v1 ?v2 ?_); (case v1 => omega); (case v2 => omega))
  | with_reducible refine' Rd.wR2 ?_
  | ((with_reducible refine' Rd.wR2L ?v1 ?_); (case v1 => omega)))
local macro_rules | `(tactic| walk_at "rd") => `(tactic| repeat (walk_at "rd1"))

set_option exponentiation.threshold 20000
section
variable {P : Program} {w : World} {K : PySem.W.Frag} {mg : Str → Option Value} {base : Heap}
theorem take_ask {H0 H : Hp} {S : List Addr} {l : Led} {st c : Addr} {ns : List Int} {m : Int} {Q : VK} {E : XK} (s : Stt H0 S l H) (m1 : (st, DrS c) ∈ l) (m2 : (c, Is (.lst (ns.map V.int))) ∈ l) (hn : ns.length ≤ 63) (hs : st ∈ S ∨ H0 st = none)
    (h0 : 0 < m ∧ m < 2 ^ 100) (k : ∀ d H', 0 ≤ d ∧ d < m → Stt H0 S l H' → Q (.int d) H') : spTake ([.ref st, .int m] ++ []) H Q E :=
  ⟨st, c, ns, m, rfl, s.drawn m1 m2, hn, h0.1, h0.2, fun d H' a b q => k d H' ⟨a, b⟩ (s.after1 m1 q.keep hs (q.pick (by walk_at "mem")))⟩
local macro_rules | `(tactic| walk_at "ask") => `(tactic| ((with_reducible refine' take_ask ?v1 ?v2 ?v3 ?v4 ?v5 ?v6 ?_); (case v1 => assumption); (case v2 => walk_at "mem"); (case v3 => walk_at "mem"); (case v4 => assumption); (case v5 => walk_at "own"); (case v6 => first | decide | omega); intro _ _ _ _))
/-- things[take(len(things))] -/
def spOne : Sp := fun vs H Q _ => ∃ (st c : Addr) (ns : List Int) (p : Addr) (xs : List V), vs = [.ref st, .ref p] ∧ Stt H [st] [(p, Is (.lst xs)), (st, DrS c), (c, Is (.lst (ns.map V.int)))] H ∧ ns.length ≤ 63 ∧ 0 < xs.length ∧ xs.length ≤ 1000 ∧
  ∀ v H', v ∈ xs → Stt H [st] [(p, Is (.lst xs)), (st, DrS c), (c, Is (.lst (ns.map V.int)))] H' → Q v H'
theorem ok_l_one (T : Txt K mg) : FnOk P w K mg base CX0 3 (He.fAd K ("_law_one", none)) T.fd_l_one ["_law_state", "_law_things"] spOne := by
  refine T.F_l_one.ok sc_l_one (fun vs H Q E h => ?_) (fun cdv A outer s H vs Q E hr h => ?_)
  · obtain ⟨st, c, ns, m, xs, rfl, _⟩ := h
    rfl
  · obtain ⟨st, c, ns, p, xs, rfl, s0, hl, h0, h1, k⟩ := h
    refine ⟨_, PSs.nox (pss_one (ps_ret (pe_ix ix_list (pv 1) (pe_call (ok_l_take T) (hr.mono (by decide)) rfl T.g_l_take T.F_l_take.kp T.b_l_take .nil pass0 (pa_cons (pv 0) (pa_cons (pe_callB call_lenQ (by rfl) T.n_len PySem.boot_len (pa_cons (pv 1) pa_nil)) pa_nil))) (fun _ _ => rfl)))), ?_⟩
    walk_at "k"
    walk_at "rd"
    rename_i d H1 hd s1
    obtain ⟨j, rfl⟩ := Int.eq_ofNat_of_zero_le hd.1
    have hj : j < xs.length := by omega
    have hz : atI xs (j : Int) = some xs[j] := atI_nat (by simp [hj])
    walk_at "rd"
    exact k _ _ (List.getElem_mem hj) s1
theorem one_ask {H0 H : Hp} {S : List Addr} {l : Led} {st c p : Addr} {ns : List Int} {xs : List V} {Q : VK} {E : XK} (s : Stt H0 S l H) (sb : List.Sublist [(p, Is (.lst xs)), (st, DrS c), (c, Is (.lst (ns.map V.int)))] l) (hn : ns.length ≤ 63) (hs : st ∈ S ∨ H0 st = none)
    (h0 : 0 < xs.length ∧ xs.length ≤ 1000) (k : ∀ v H', v ∈ xs → Stt H0 S l H' → Q v H') : spOne ([.ref st, .ref p] ++ []) H Q E :=
  ⟨st, c, ns, p, xs, rfl, s.base sb, hn, h0.1, h0.2, fun v H' a q => k v H' a (s.after1 (f := DrS c) (sb.subset (by simp)) q.keep hs (q.pick (by walk_at "mem")))⟩
/-! ### lowest terms -/
def spLow : Sp := fun vs H Q _ => ∃ (a b : Int), vs = [.int a, .int b] ∧ 0 < b ∧ a.natAbs < 2 ^ 2000 ∧ b.natAbs < 2 ^ 2000 ∧ ∀ p H', H p = none → Stt H [] [(p, Is (.tup [.int (a / (Int.gcd a b : Int)), .int (b / (Int.gcd a b : Int))]))] H' → Q (.ref p) H'
theorem ok_l_low (T : Txt K mg) : FnOk P w K mg base CX0 1 (He.fAd K ("_law_low", none)) T.fd_l_low ["_law_top", "_law_low_here"] spLow := by
  refine T.F_l_low.ok sc_l_low (fun vs H Q E h => ?_) (fun cdv A outer s H vs Q E hr h => ?_)
  · obtain ⟨a, b, rfl, _⟩ := h
    rfl
  · obtain ⟨a, b, rfl, h0, h1, h2, k⟩ := h
    refine ⟨_, PSs.nox (pss_cons (ps_par (i := 2) (j := 3) (by rfl) sc_l_low.nd rfl rfl (by decide) rfl rfl (pa_cons (pe_callB call_absQ (by rfl) T.n_abs (by decide +kernel) (pa_cons (pv 0) pa_nil)) (pa_cons (pe_callB call_absQ (by rfl) T.n_abs (by decide +kernel) (pa_cons (pv 1) pa_nil)) pa_nil)) (by rfl))
  (pss_cons (ps_while PassesOwn.never (pt_cmpR op_gt (pv 3) pe_int (nomark _)) (pss_one (ps_par (i := 2) (j := 3) (by rfl) sc_l_low.nd rfl rfl (by decide) rfl rfl (pa_cons (pv 3) (pa_cons (pe_op op_mod (pv 2) (pv 3)) pa_nil)) (by rfl))))
  (pss_one (ps_ret (pe_ifExp (pt_cmpR op_gt (pv 1) pe_int (nomark _)) (pe_tup (pa_cons (pe_op op_fdivW (pv 0) (pv 2)) (pa_cons (pe_op op_fdivW (pv 1) (pv 2)) pa_nil))) (pe_tup (pa_cons (pe_op op_fdivW (pe_un un_neg (pv 0)) (pv 2)) (pa_cons (pe_op op_fdivW (pe_un un_neg (pv 1)) (pv 2)) pa_nil)))))))), ?_⟩
    walk_at "k"
    have s0 : Stt H [] [] H := Stt.nil
    have ab : ∀ z : Int, (if z < 0 then -z else z) = (z.natAbs : Int) := fun z => by split <;> omega
    walk_at "rd"
    rw [ab, ab]
    refine Rd.whileS (fun n σ' H' => H = H' ∧ ∃ x y : Nat, σ' = [some (.int a), some (.int b), some (.int x), some (.int y)] ∧ Nat.gcd x y = Int.gcd a b ∧ y = n) b.natAbs ⟨rfl, a.natAbs, b.natAbs, rfl, rfl, rfl⟩ ?_
    rintro n σ' H' ⟨rfl, x, y, rfl, hg, rfl⟩
    walk_at "rd"
    refine Rd.brD (fun c1 => ?_) (fun c1 => ?_)
    · refine ⟨fun σ' H' => H = H' ∧ σ' = [some (.int a), some (.int b), some (.int y), some (.int (x % y : Nat))], ?_, ?_⟩
      · rintro σ' H' ⟨rfl, rfl⟩
        refine ⟨x % y, Nat.mod_lt _ (by omega), rfl, y, x % y, rfl, ?_, rfl⟩
        rw [← hg, Nat.gcd_comm x y, Nat.gcd_rec y x, Nat.gcd_comm]
      · walk_at "rd"
        exact ⟨rfl, rfl⟩
    · have ey : y = 0 := by omega
      subst ey
      rw [Nat.gcd_zero_right] at hg
      have hb : 0 < Int.gcd a b := Int.gcd_pos_of_ne_zero_right _ (by omega)
      have hle : Int.gcd a b ≤ b.natAbs := Nat.le_of_dvd (by omega) (Int.gcd_dvd_natAbs_right a b)
      have hx : CDivW a (x : Int) := wide_div (b := 2000) (by omega) (by omega) (by decide) (by decide)
      walk_at "rd"
      refine Rd.brD (fun c2 => ?_) (fun c2 => ?_)
      · walk_at "rd"
        rw [← hg] at k
        exact k _ _ (by assumption) (by assumption)
      · exact absurd h0 c2
local macro_rules | `(tactic| walk_at "ask") => `(tactic| ((with_reducible refine' one_ask ?v1 ?v2 ?v3 ?v4 ?v5 ?_); (case v1 => assumption); (case v2 => walk_at "subl"); (case v3 => assumption); (case v4 => walk_at "own"); (case v5 => simp only [List.length_append, List.length_cons, List.length_nil]; decide); intro _ _ _ _))
theorem low_ask {H0 H : Hp} {S : List Addr} {l : Led} {a b : Int} {Q : VK} {E : XK} (s : Stt H0 S l H) (hb : 0 < b) (h1 : a.natAbs < 2 ^ 2000) (h2 : b.natAbs < 2 ^ 2000)
    (k : ∀ p H', H0 p = none → Stt H0 S ((p, Is (.tup [.int (a / (Int.gcd a b : Int)), .int (b / (Int.gcd a b : Int))])) :: l) H' → Q (.ref p) H') : spLow ([.int a, .int b] ++ []) H Q E :=
  ⟨a, b, rfl, hb, h1, h2, fun p H' hp q => k p H' (s.none hp) ((s.after0 q.keep).add (q.pick List.mem_cons_self) (s.fresh hp))⟩
/-- a drawn figure -/
def spFig : Sp := fun vs H Q _ => ∃ (st c : Addr) (ns : List Int), vs = [.ref st] ∧ Stt H [st] (dled st c ns) H ∧ ns.length ≤ 63 ∧ ∀ z H', z.natAbs < 2 ^ 100 → Stt H [st] (dled st c ns) H' → Q (.int z) H'
theorem ok_l_figure (T : Txt K mg) : FnOk P w K mg base CX0 4 (He.fAd K ("_law_figure", none)) T.fd_l_figure ["_law_state"] spFig := by
  refine T.F_l_figure.ok sc_l_figure (fun vs H Q E h => ?_) (fun cdv A outer s H vs Q E hr h => ?_)
  · obtain ⟨st, c, ns, rfl, _⟩ := h
    rfl
  · obtain ⟨st, c, ns, rfl, s0, hl, k⟩ := h
    refine ⟨_, PSs.nox (pss_cons (ps_asg (pe_op op_sub (pe_call (ok_l_take T) (hr.mono (by decide)) rfl T.g_l_take T.F_l_take.kp T.b_l_take .nil pass0 (pa_cons (pv 0) (pa_cons (pe_op op_pow pe_int pe_int) pa_nil))) (pe_op op_mul pe_int (pe_op op_pow pe_int pe_int))) (pg_name (i := 1) sc_l_figure.nd rfl (by first | exact Or.inl rfl | exact Or.inr rfl)))
  (pss_one (ps_ret (pe_call (ok_l_one T) (hr.mono (by decide)) rfl T.g_l_one T.F_l_one.kp T.b_l_one .nil pass0 (pa_cons (pv 0) (pa_cons (pe_lst (pa_cons pe_int (pa_cons pe_int (pa_cons (pe_un un_neg pe_int) (pa_cons pe_int (pa_cons (pe_op op_sub (pe_call (ok_l_take T) (hr.mono (by decide)) rfl T.g_l_take T.F_l_take.kp T.b_l_take .nil pass0 (pa_cons (pv 0) (pa_cons pe_int pa_nil))) pe_int) (pa_cons (pv 1) (pa_cons (pe_op op_add (pe_op op_pow pe_int pe_int) pe_int) pa_nil)))))))) pa_nil)))))), ?_⟩
    walk_at "k"
    walk_at "rd"
    rename_i d1 _ hd1 _ d2 _ hd2 _ p _ _ _ v _ hv s9
    have e18 : (10 : Int) ^ Int.toNat 18 = 1000000000000000000 := by decide
    have e17 : (10 : Int) ^ Int.toNat 17 = 100000000000000000 := by decide
    rw [e18] at hd1
    have hz : ∃ z, v = .int z ∧ z.natAbs < 2 ^ 100 := by
      simp only [List.mem_cons, List.not_mem_nil, or_false] at hv
      rcases hv with rfl | rfl | rfl | rfl | rfl | rfl | rfl
      · exact ⟨_, rfl, by decide⟩
      · exact ⟨_, rfl, by decide⟩
      · exact ⟨_, rfl, by decide⟩
      · exact ⟨_, rfl, by decide⟩
      · exact ⟨_, rfl, by omega⟩
      · exact ⟨_, rfl, by rw [e17]; omega⟩
      · exact ⟨_, rfl, by decide⟩
    obtain ⟨z, rfl, hz⟩ := hz
    exact k z _ hz (s9.sub (by walk_at "subl"))
theorem fig_ask {H0 H : Hp} {S : List Addr} {l : Led} {st c : Addr} {ns : List Int} {Q : VK} {E : XK} (s : Stt H0 S l H) (sb : List.Sublist (dled st c ns) l) (hn : ns.length ≤ 63) (hs : st ∈ S ∨ H0 st = none)
    (k : ∀ z H', z.natAbs < 2 ^ 100 → Stt H0 S l H' → Q (.int z) H') : spFig ([.ref st] ++ []) H Q E :=
  ⟨st, c, ns, rfl, s.base sb, hn, fun v H' a q => k v H' a (s.after1 (f := DrS c) (sb.subset (by simp)) q.keep hs (q.pick (by walk_at "mem")))⟩
/-- a drawn fraction in lowest terms -/
def spFrac : Sp := fun vs H Q _ => ∃ (st c : Addr) (ns : List Int), vs = [.ref st] ∧ Stt H [st] (dled st c ns) H ∧ ns.length ≤ 63 ∧
  ∀ p x y H', H p = none → 0 < y → Int.gcd x y = 1 → x.natAbs < 2 ^ 100 → y.natAbs < 2 ^ 40 → Stt H [st] ((p, Is (.tup [.int x, .int y])) :: dled st c ns) H' → Q (.ref p) H'
theorem gcd_div {a b : Int} (hb : 0 < b) : 0 < b / (Int.gcd a b : Int) ∧ Int.gcd (a / (Int.gcd a b : Int)) (b / (Int.gcd a b : Int)) = 1 ∧ (a / (Int.gcd a b : Int)).natAbs ≤ a.natAbs ∧ (b / (Int.gcd a b : Int)).natAbs ≤ b.natAbs := by
  have hg : 0 < Int.gcd a b := Int.gcd_pos_of_ne_zero_right _ (by omega)
  have d1 : (Int.gcd a b : Int) ∣ a := Int.gcd_dvd_left ..
  have d2 : (Int.gcd a b : Int) ∣ b := Int.gcd_dvd_right ..
  refine ⟨Int.ediv_pos_of_pos_of_dvd hb (by omega) d2, ?_, ?_, ?_⟩
  · exact Int.gcd_ediv_gcd_ediv_gcd hg
  · rw [Int.natAbs_ediv_of_dvd d1]
    exact Nat.div_le_self _ _
  · rw [Int.natAbs_ediv_of_dvd d2]
    exact Nat.div_le_self _ _
theorem ok_l_fraction (T : Txt K mg) : FnOk P w K mg base CX0 5 (He.fAd K ("_law_fraction", none)) T.fd_l_fraction ["_law_state"] spFrac := by
  refine T.F_l_fraction.ok sc_l_fraction (fun vs H Q E h => ?_) (fun cdv A outer s H vs Q E hr h => ?_)
  · obtain ⟨st, c, ns, rfl, _⟩ := h
    rfl
  · obtain ⟨st, c, ns, rfl, s0, hl, k⟩ := h
    refine ⟨_, PSs.nox (pss_one (ps_ret (pe_call (ok_l_low T) (hr.mono (by decide)) rfl T.g_l_low T.F_l_low.kp T.b_l_low .nil pass0 (pa_cons (pe_call (ok_l_figure T) (hr.mono (by decide)) rfl T.g_l_figure T.F_l_figure.kp T.b_l_figure .nil pass0 (pa_cons (pv 0) pa_nil)) (pa_cons (pe_call (ok_l_one T) (hr.mono (by decide)) rfl T.g_l_one T.F_l_one.kp T.b_l_one .nil pass0 (pa_cons (pv 0) (pa_cons (pe_lst (pa_cons pe_int (pa_cons pe_int (pa_cons pe_int (pa_cons pe_int (pa_cons (pe_op op_add pe_int (pe_call (ok_l_take T) (hr.mono (by decide)) rfl T.g_l_take T.F_l_take.kp T.b_l_take .nil pass0 (pa_cons (pv 0) (pa_cons pe_int pa_nil)))) (pa_cons (pe_op op_add (pe_op op_pow pe_int pe_int) pe_int) pa_nil))))))) pa_nil))) pa_nil))))), ?_⟩
    walk_at "k"
    walk_at "rd"
    refine fig_ask s0 (by walk_at "subl") hl (.inl (by walk_at "mem")) fun z H1 hz s1 => ?_
    walk_at "rd"
    rename_i d _ hd _ p _ _ _ v _ hv s9
    have e9 : (10 : Int) ^ Int.toNat 9 = 1000000000 := by decide
    rw [e9] at hv
    have hy : ∃ y, v = .int y ∧ 0 < y ∧ y.natAbs < 2 ^ 40 := by
      simp only [List.mem_cons, List.not_mem_nil, or_false] at hv
      rcases hv with rfl | rfl | rfl | rfl | rfl | rfl
      · exact ⟨_, rfl, by decide, by decide⟩
      · exact ⟨_, rfl, by decide, by decide⟩
      · exact ⟨_, rfl, by decide, by decide⟩
      · exact ⟨_, rfl, by decide, by decide⟩
      · exact ⟨_, rfl, by omega, by omega⟩
      · exact ⟨_, rfl, by decide, by decide⟩
    obtain ⟨y, rfl, hy0, hy⟩ := hy
    walk_at "rd"
    obtain ⟨g1, g2, g3, g4⟩ := gcd_div (a := z) hy0
    refine low_ask s9 hy0 (by omega) (by omega) fun q H5 hq s10 => ?_
    exact k q _ _ H5 hq g1 g2 (by omega) (by omega) (s10.sub (by walk_at "subl"))
theorem frac_ask {H0 H : Hp} {S : List Addr} {l : Led} {st c : Addr} {ns : List Int} {Q : VK} {E : XK} (s : Stt H0 S l H) (sb : List.Sublist (dled st c ns) l) (hn : ns.length ≤ 63) (hs : st ∈ S ∨ H0 st = none)
    (k : ∀ p x y H', H0 p = none → 0 < y ∧ Int.gcd x y = 1 ∧ x.natAbs < 2 ^ 100 ∧ y.natAbs < 2 ^ 40 → Stt H0 S ((p, Is (.tup [.int x, .int y])) :: l) H' → Q (.ref p) H') : spFrac ([.ref st] ++ []) H Q E :=
  ⟨st, c, ns, rfl, s.base sb, hn, fun p x y H' hp a1 a2 a3 a4 q => k p x y H' (s.none hp) ⟨a1, a2, a3, a4⟩ ((s.after1 (f := DrS c) (sb.subset (by simp)) q.keep hs (q.pick (by walk_at "mem"))).add (q.pick List.mem_cons_self) (s.fresh hp))⟩
end

end
section
local macro_rules | `(tactic| walk_at "subl") => `(tactic| first | with_reducible exact List.nil_sublist _ | with_reducible exact List.Sublist.refl _ | (with_reducible refine List.Sublist.cons₂ _ ?_; walk_at "subl") | (with_reducible refine List.Sublist.cons _ ?_; walk_at "subl"))
local macro_rules | `(tactic| walk_at "k") => `(tactic| try dsimp only [L2.cxOf, L2.Cx.nox, L2.Cx.wish, L2.Cx.blk])
local macro_rules | `(tactic| walk_at "ask") => `(tactic| fail)
local macro_rules | `(tactic| walk_at "mem") => `(tactic| first | with_reducible exact List.mem_cons_self | (with_reducible apply List.mem_cons_of_mem; walk_at "mem"))
local macro_rules | `(tactic| walk_at "put") => `(tactic| first | with_reducible exact Lt.Put.head | (with_reducible apply Lt.Put.tail; walk_at "put"))
local macro_rules | `(tactic| walk_at "own") => `(tactic| first | exact Or.inr (by assumption) | exact Or.inl (by walk_at "mem"))
local macro_rules | `(tactic| walk_at "cnd") => `(tactic| first | assumption | decide | ((try dsimp only); omega) | (unfold CMul; omega) | (unfold CDiv; omega) | (unfold CPow; omega) | exact Or.inr (by decide) | exact Or.inl (by decide) | exact wide_div (b := 128) (by omega) (by omega) (by decide) (by decide))
local macro_rules | `(tactic| walk_at "at") => `(tactic| first | exact rfl | assumption)
local macro_rules | `(tactic| walk_at "kit") => `(tactic| first | assumption | exact kit_int_int | exact kit_int_bool | exact kit_int_str | exact kit_int_list | exact kit_int_tuple | exact kit_int_dict | exact kit_bool_int | exact kit_bool_bool | exact kit_bool_str | exact kit_bool_list | exact kit_bool_tuple | exact kit_bool_dict | exact kit_str_int | exact kit_str_bool | exact kit_str_str | exact kit_str_list | exact kit_str_tuple | exact kit_str_dict | exact kit_list_int | exact kit_list_bool | exact kit_list_str | exact kit_list_list | exact kit_list_tuple | exact kit_list_dict | exact kit_tuple_int | exact kit_tuple_bool | exact kit_tuple_str | exact kit_tuple_list | exact kit_tuple_tuple | exact kit_tuple_dict | exact kit_dict_int | exact kit_dict_bool | exact kit_dict_str | exact kit_dict_list | exact kit_dict_tuple | exact kit_dict_dict | exact kit_NoneType_int | exact kit_NoneType_bool | exact kit_NoneType_str | exact kit_NoneType_list | exact kit_NoneType_tuple | exact kit_NoneType_dict)
local macro_rules | `(tactic| walk_at "kitA") => `(tactic| first | assumption | exact kitA_lt_int | exact kitA_lt_bool | exact kitA_lt_str | exact kitA_lt_list | exact kitA_lt_tuple | exact kitA_lt_dict | exact kitA_lt_NoneType | exact kitA_bilt_int | exact kitA_bilt_bool | exact kitA_bilt_str | exact kitA_bilt_list | exact kitA_bilt_tuple | exact kitA_bilt_dict | exact kitA_bilt_NoneType)
local macro_rules | `(tactic| walk_at "ty") => `(tactic| first | exact .base (.int _) | exact .base (.bl _) | exact .base (.str _) | exact .base .non | exact .base (.lst (Stt.get (by assumption) (by walk_at "mem"))) | exact .base (.tup (Stt.get (by assumption) (by walk_at "mem"))) | exact .base (.dK (Stt.get (by assumption) (by walk_at "mem"))) | exact sqL_ty (Stt.upL (by assumption) (by assumption)) | exact sqT_ty (Stt.upT (by assumption) (by assumption)) | exact InsT.ty (by assumption) (Stt.get (by assumption) (by walk_at "mem")) | assumption)
local macro_rules | `(tactic| walk_at "rd1") => `(tactic| first
  | with_reducible refine' Rd.seq ?_
  | with_reducible refine' Rd.asg ?_
  | ((with_reducible refine' Rd.var ?vh ?_); (case vh => exact rfl))
  | with_reducible refine' Rd.con ?_
  | with_reducible refine' Rd.op ?_
  | with_reducible refine' Rd.i0 ?_
  | ((with_reducible refine' Rd.ic ?vh ?_); (case vh => walk_at "cnd"))
  | ((with_reducible refine' Rd.ixL ?v1 ?v2 ?v3 ?_); (case v1 => assumption); (case v2 => walk_at "mem"); (case v3 => walk_at "at"))
  | ((with_reducible refine' Rd.ixT ?v1 ?v2 ?v3 ?_); (case v1 => assumption); (case v2 => walk_at "mem"); (case v3 => walk_at "at"))
  | ((with_reducible refine' Rd.ixD2 ?v1 ?v2 ?_); (case v1 => assumption); (case v2 => walk_at "mem"); intro _)
  | ((with_reducible refine' Rd.ixD3 ?v1 ?v2 ?_); (case v1 => assumption); (case v2 => walk_at "mem"); intro _)
  | ((with_reducible refine' Rd.setD2 ?v1 ?v2 ?v3 ?v4 ?_); (case v1 => assumption); (case v2 => walk_at "mem"); (case v3 => walk_at "put"); (case v4 => walk_at "own"); intro _ _)
  | ((with_reducible refine' Rd.isi ?v1 ?v2 ?v3 ?_); (case v1 => walk_at "ty"); (case v2 => first | exact ClsV.ty _ | exact ClsV.own _); (case v3 => walk_at "kit"))
  | with_reducible refine' Rd.fld ?_
  | ((with_reducible refine' Rd.fldI ?v1 ?v2 ?v3 ?v4 ?v5 ?_); (case v1 => assumption); (case v2 => walk_at "mem"); (case v3 => assumption); (case v4 => assumption); (case v5 => walk_at "at"))
  | with_reducible refine' Rd.sfld ?_
  | ((with_reducible refine' Rd.sfldI ?v1 ?v2 ?v3 ?v4 ?v5 ?v6 ?v7 ?_); (case v1 => assumption); (case v2 => walk_at "mem"); (case v3 => assumption); (case v4 => assumption); (case v5 => first | decide | (refine Nat.lt_of_le_of_lt (putF_len _ _ _) ?_; decide)); (case v6 => walk_at "put"); (case v7 => walk_at "own"); intro _ _)
  | with_reducible refine' Rd.make ?_
  | with_reducible refine' Rd.gcd ?_
  | with_reducible refine' Rd.cons ?_
  | with_reducible refine' Rd.nil ?_
  | with_reducible refine' Rd.cb ?_
  | with_reducible refine' Rd.intI ?_
  | with_reducible refine' Rd.absI ?_
  | ((with_reducible refine' Rd.lenL ?v1 ?v2 ?_); (case v1 => assumption); (case v2 => walk_at "mem"))
  | ((with_reducible refine' Rd.lenT ?v1 ?v2 ?_); (case v1 => assumption); (case v2 => walk_at "mem"))
  | ((with_reducible refine' Rd.lenBL ?v1 ?v2 ?v3 ?_); (case v1 => assumption); (case v2 => assumption); (case v3 => first | exact List.not_mem_nil | assumption))
  | ((with_reducible refine' Rd.lenBT ?v1 ?v2 ?v3 ?_); (case v1 => assumption); (case v2 => assumption); (case v3 => first | exact List.not_mem_nil | assumption))
  | ((with_reducible refine' Rd.ixBL ?v1 ?v2 ?v4 ?v3 ?_); (case v1 => assumption); (case v2 => assumption); (case v4 => first | exact List.not_mem_nil | assumption); (case v3 => walk_at "at"))
  | ((with_reducible refine' Rd.ixBT ?v1 ?v2 ?v4 ?v3 ?_); (case v1 => assumption); (case v2 => assumption); (case v4 => first | exact List.not_mem_nil | assumption); (case v3 => walk_at "at"))
  | ((with_reducible refine' Rd.brI ?vh ?_); (case vh => with_reducible exact rfl))
  | with_reducible refine' Rd.ifS ?_
  | with_reducible refine' Rd.test ?_
  | with_reducible refine' Rd.tbl ?_
  | with_reducible refine' Rd.bl ?_
  | with_reducible refine' Rd.brTT ?_
  | with_reducible refine' Rd.brFF ?_
  | with_reducible refine' Rd.brN ?_
  | ((with_reducible refine' Rd.aug ?vh ?_); (case vh => exact rfl))
  | with_reducible refine' Rd.ipI ?_
  | with_reducible refine' Rd.blV ?_
  | with_reducible refine' Rd.notVL ?_
  | with_reducible refine' Rd.andT ?_
  | with_reducible refine' Rd.orT ?_
  | with_reducible refine' Rd.notT ?_
  | with_reducible refine' Rd.andV ?_
  | with_reducible refine' Rd.orV ?_
  | with_reducible refine' Rd.notV ?_
  | with_reducible refine' Rd.ifE ?_
  | ((with_reducible refine' Rd.eqS ?vh ?_); (case vh => exact rfl))
  | ((with_reducible refine' Rd.neS ?vh ?_); (case vh => exact rfl))
  | with_reducible refine' Rd.par ?_
  | with_reducible refine' Rd.parL ?_
  | with_reducible refine' Rd.un ?_
  | with_reducible refine' Rd.u1 ?_
  | with_reducible refine' Rd.sub ?_
  | ((with_reducible refine' Rd.setL ?v1 ?v2 ?v3 ?v4 ?v5 ?_); (case v1 => assumption); (case v2 => walk_at "mem"); (case v3 => walk_at "at"); (case v4 => walk_at "put"); (case v5 => walk_at "own"); intro _ _)
  | with_reducible refine' Rd.tup ?_
  | with_reducible refine' Rd.lst ?_
  | ((with_reducible refine' Rd.tupN ?v1 ?v2 ?_); (case v1 => assumption); (case v2 => simp only [List.length_cons, List.length_nil]; decide); intro _ _ _ _)
  | ((with_reducible refine' Rd.lstN ?v1 ?v2 ?_); (case v1 => assumption); (case v2 => simp only [List.length_cons, List.length_nil]; decide); intro _ _ _ _)
  | with_reducible refine' Rd.ret ?_
  | with_reducible refine' Rd.drop ?_
  | with_reducible refine' Rd.retN ?_
  | with_reducible refine' Rd.next ?_
  | with_reducible refine' Rd.brk ?_
  | with_reducible refine' Rd.cont ?_
  | with_reducible refine' Rd.call ?_
  | walk_at "ask"
  | with_reducible refine' Rd.bm ?_
  | ((with_reducible refine' Rd.bmL ?v1 ?v2 ?_); (case v1 => assumption); (case v2 => walk_at "mem"))
  | ((with_reducible refine' Rd.app ?v1 ?v2 ?v3 ?v4 ?v5 ?_); (case v1 => assumption); (case v2 => walk_at "mem"); (case v3 => simp only [List.length_cons, List.length_nil, List.length_append]; omega); (case v4 => walk_at "put"); (case v5 => walk_at "own"); intro _ _)
  | with_reducible refine' Rd.asgT ?_
  | ((with_reducible refine' Rd.gtup ?v1 ?v2 ?v3 ?_); (case v1 => assumption); (case v2 => walk_at "mem"); (case v3 => exact rfl))
  | with_reducible refine' Rd.gcons ?_
  | with_reducible refine' Rd.gname ?_
  | with_reducible refine' Rd.gnil ?_
  | with_reducible refine' Rd.sl ?_
  | with_reducible refine' Rd.noPart ?_
  | with_reducible refine' Rd.part ?_
  | with_reducible refine' Rd.prt ?_
  | with_reducible refine' Rd.isB ?_
  | ((with_reducible refine' Rd.wp ?vh ?_); (case vh => exact rfl))
  | with_reducible refine' Rd.makeK ?_
  | with_reducible refine' Rd.meth ?_
  | ((with_reducible refine' Rd.catL ?v1 ?v2 ?v3 ?v4 ?_); (case v1 => assumption); (case v2 => walk_at "mem"); (case v3 => walk_at "mem"); (case v4 => simp only [List.length_cons, List.length_nil, List.length_append]; omega); intro _ _ _ _)
  | with_reducible refine' Rd.dnew ?_
  | ((with_reducible refine' Rd.dnewL ?v1 ?_); (case v1 => assumption); intro _ _ _ _)
  | with_reducible refine' Rd.lc ?_
  | with_reducible refine' Rd.wZ ?_
  | with_reducible refine' Rd.tYesH ?_
  | with_reducible refine' Rd.fmt ?_
  | with_reducible refine' Rd.joined ?_
  | with_reducible refine' Rd.jsNil ?_
  | with_reducible refine' Rd.jsCons ?_
  | ((with_reducible refine' Rd.isiT ?v1 ?v2 ?v3 ?v4 ?v5 ?_); (case v1 => assumption); (case v2 => walk_at "mem"); (case v3 => walk_at "ty"); (case v4 => first | exact .cons (.ty _) (.cons (.ty _) .nil) | exact .cons (.ty _) (.cons (.ty _) (.cons (.ty _) (.cons (.ty _) .nil))) | exact .cons (.ty _) (.cons (.ty _) (.cons (.ty _) .nil))); (case v5 => walk_at "kitA"))
  | with_reducible refine' Rd.forS ?_
  | with_reducible refine' Rd.wEnT ?_
  | ((with_reducible refine' Rd.wEnTL ?v1 ?v2 ?_); (case v1 => assumption); (case v2 => walk_at "mem"))
  | with_reducible refine' Rd.wL ?_
  | ((with_reducible refine' Rd.wLL ?v1 ?v2 ?_); (case v1 => assumption); (case v2 => walk_at "mem"))
  | with_reducible refine' Rd.wT ?_
  | ((with_reducible refine' Rd.wTL ?v1 ?v2 ?_); (case v1 => assumption); (case v2 => walk_at "mem"))
  | with_reducible refine' Rd.wR1 ?_
  | ((with_reducible refine' Rd.wR1L ?v1 ?v2 ?_); (case v1 => omega); (case v2 => omega))
  | with_reducible refine' Rd.wR2 ?_
  | ((with_reducible refine' Rd.wR2L ?v1 ?_); (case v1 => omega)))
local macro_rules | `(tactic| walk_at "rd") => `(tactic| repeat (walk_at "rd1"))

set_option exponentiation.threshold 20000
section
variable {P : Program} {w : World} {K : PySem.W.Frag} {mg : Str → Option Value} {base : Heap}
/-! ### exact numbers -/
def SpanO (K : PySem.W.Frag) (a b : Int) : HO → Prop := fun o => ∃ dx, o = .ins (He.ga K "Span") dx [("over", .int a), ("under", .int b)]
theorem ou_ : ¬ (("over" : Str) = "under") := by decide +kernel
theorem uo_ : ¬ (("under" : Str) = "over") := by decide +kernel
theorem span_fs (a b : Int) : putF "under" (.int b) (putF "over" (.int a) []) = ([("over", V.int a), ("under", V.int b)] : List (Str × V)) := by
  show (if ("over" : Str) = "under" then [(("over" : Str), V.int b)] else (("over" : Str), V.int a) :: putF "under" (V.int b) []) = ([("over", V.int a), ("under", V.int b)] : List (Str × V))
  rw [if_neg ou_]
  rfl
theorem span_over (a b : Int) : ([("over", V.int a), ("under", V.int b)] : List (Str × V)).lookup ("over" : Str) = some (.int a) := rfl
theorem span_under (a b : Int) : ([("over", V.int a), ("under", V.int b)] : List (Str × V)).lookup ("under" : Str) = some (.int b) := by
  rw [← span_fs, lookup_putF, if_pos rfl]
/-- isinstance(thing, int) and not isinstance(thing, bool) -/
def intV : V → Bool
  | .int _ => true
  | _ => false
def spIsI (K : PySem.W.Frag) : Sp := fun vs H Q _ => ∃ (v : V) (t : Value) (b c : Bool), vs = [v] ∧ TyX K H v t ∧ PySem.W.kitOne K t (.type "int") = some b ∧ PySem.W.kitOne K t (.type "bool") = some c ∧ Q (.bl (b && !c)) H
theorem ok_is_integer (T : Txt K mg) : FnOk P w K mg base CX0 1 (He.fAd K ("is_integer", none)) T.fd_is_integer ["thing"] (spIsI K) := by
  refine T.F_is_integer.ok sc_is_integer (fun vs H Q E h => ?_) (fun cdv A outer s H vs Q E hr h => ?_)
  · obtain ⟨v, t, b, c, rfl, _⟩ := h
    rfl
  · obtain ⟨v, t, b, c, rfl, ht, h1, h2, k⟩ := h
    refine ⟨_, PSs.nox (pss_one (ps_ret (pe_and (pe_callB call_isi (by rfl) T.n_isinstance (by decide +kernel) (pa_cons (pv 0) (pa_cons (pe_bltn (v := .ty "int") (by rfl) T.n_int (by decide +kernel) (show RelV (.ty "int") (.type "int") from rfl)) pa_nil))) (pe_one (pe_not (pe_callB call_isi (by rfl) T.n_isinstance (by decide +kernel) (pa_cons (pv 0) (pa_cons (pe_bltn (v := .ty "bool") (by rfl) T.n_bool (by decide +kernel) (show RelV (.ty "bool") (.type "bool") from rfl)) pa_nil)))))))), ?_⟩
    walk_at "k"
    walk_at "rd"
    refine Rd.br (fun e => ?_) (fun e => ?_)
    · subst e
      walk_at "rd"
      exact k
    · subst e
      walk_at "rd"
      exact k
theorem isI_int {H : Hp} {i : Int} {Q : VK} {E : XK} (k : Q (.bl true) H) : spIsI K ([.int i] ++ []) H Q E := ⟨.int i, _, _, _, rfl, .base (.int i), kit_int_int, kit_int_bool, k⟩
local macro_rules | `(tactic| walk_at "ask") => `(tactic| with_reducible refine' isI_int ?_)
/-- a number: an int, or a Span -/
def IsNum (K : PySem.W.Frag) (H : Hp) (v : V) (a b : Int) : Prop := (v = .int a ∧ b = 1) ∨ ∃ p o, v = .ref p ∧ H p = some o ∧ SpanO K a b o
theorem IsNum.kp {S : List Addr} {H H' : Hp} {v : V} {a b : Int} (h : IsNum K H v a b) (k : Kp S H H') (hs : ∀ p, v = .ref p → p ∉ S) : IsNum K H' v a b := by
  rcases h with h | ⟨p, o, rfl, h1, h2⟩
  · exact .inl h
  · exact .inr ⟨p, o, rfl, k.get (hs p rfl) h1, h2⟩
theorem IsNum.kp0 {H H' : Hp} {v : V} {a b : Int} (h : IsNum K H v a b) (k : Kp [] H H') : IsNum K H' v a b := h.kp k fun _ _ z => nomatch z
theorem IsNum.int {H : Hp} {i : Int} : IsNum K H (.int i) i 1 := .inl ⟨rfl, rfl⟩
def spSpanInit (K : PySem.W.Frag) : Sp := fun vs H Q _ => ∃ (p dx : Addr) (a b : Int), vs = [.ref p, .int a, .int b] ∧ H p = some (.ins (He.ga K "Span") dx []) ∧ b ≠ 0 ∧ b.natAbs < 2 ^ 8000 ∧ ∀ H', Kp [p] H H' → (∃ o, H' p = some o ∧ SpanO K (nO a b) (nU a b) o) → Q .non H'
theorem ok_Span_init (T : Txt K mg) : FnOk P w K mg base CX0 2 (He.fAd K ("Span", some "__init__")) T.fd_Span_init ["self", "over", "under"] (spSpanInit K) := by
  refine T.F_Span_init.ok sc_Span_init (fun vs H Q E h => ?_) (fun cdv A outer s H vs Q E hr h => ?_)
  · obtain ⟨p, dx, a, b, rfl, _⟩ := h
    rfl
  · obtain ⟨p, dx, a, b, rfl, h1, h2, h4, k⟩ := h
    refine ⟨_, PSs.nox (pss_cons (ps_if (pt_not (pt_val (pe_call (ok_is_integer T) (hr.mono (by decide)) rfl T.g_is_integer T.F_is_integer.kp T.b_is_integer .nil pass0 (pa_cons (pv 1) pa_nil)))) (pss_one ps_never)
   pss_nil)
  (pss_cons (ps_if (PW.pt (pw_or (pt_not (pt_val (pe_call (ok_is_integer T) (hr.mono (by decide)) rfl T.g_is_integer T.F_is_integer.kp T.b_is_integer .nil pass0 (pa_cons (pv 2) pa_nil)))) (pw_or1 (pt_cmpR op_eq (pv 2) pe_int (nomark _))))) (pss_one ps_never)
   pss_nil)
  (pss_cons (ps_asg (pe_callBfun cr_gcd rfl T.g_gcd (pa_cons (pv 1) (pa_cons (pv 2) pa_nil))) (pg_name (i := 3) sc_Span_init.nd rfl (by first | exact Or.inl rfl | exact Or.inr rfl)))
  (C8.pss_cut (ps_if (pt_cmpR op_lt (pv 2) pe_int (nomark _)) (pss_one (ps_asg (pe_un un_neg (pv 3)) (pg_name (i := 3) sc_Span_init.nd rfl (by first | exact Or.inl rfl | exact Or.inr rfl))))
   pss_nil)
  (pss_cons (ps_fld (pv 0) (pe_op op_fdivZ (pv 1) (pv 3)) rfl)
  (pss_one (ps_fld (pv 0) (pe_op op_fdivZ (pv 2) (pv 3)) rfl))))))), ?_⟩
    walk_at "k"
    have s0 : Stt H [p] [(p, Is (.ins (He.ga K "Span") dx []))] H := ⟨.refl H, by simp, fun e m => by rw [List.mem_singleton.mp m]; exact ⟨_, h1, rfl⟩⟩
    have c1 := T.c_Span
    have c2 := T.a_Span_over
    have c3 := T.a_Span_under
    have hg : 0 < Int.gcd a b := Int.gcd_pos_of_ne_zero_right _ h2
    have hle : Int.gcd a b ≤ b.natAbs := Nat.le_of_dvd (by omega) (Int.gcd_dvd_natAbs_right a b)
    walk_at "rd"
    refine Rd.brJ (fun e => h2 (V.int.inj e)) ?_
    walk_at "rd"
    refine Rd.cut (fun σ' H' => H = H' ∧ ∃ z : Int, σ' = [some (.ref p), some (.int a), some (.int b), some (.int z)] ∧ z ≠ 0 ∧ z.natAbs < 2 ^ 8000 ∧ a.fdiv z = nO a b ∧ b.fdiv z = nU a b) ?_ ?_
    · walk_at "rd"
      refine Rd.brD (fun c => ?_) (fun c => ?_)
      · walk_at "rd"
        exact ⟨rfl, _, rfl, by omega, by omega, nO_neg c, nU_neg c⟩
      · walk_at "rd"
        exact ⟨rfl, _, rfl, by omega, by omega, nO_pos c, nU_pos c⟩
    · rintro σ' H' ⟨rfl, z, rfl, z1, z2, z3, z4⟩
      have cz : CDivZ a z := wide_divZ (b := 8000) z1 z2 (by decide) (by decide)
      have cz2 : CDivZ b z := cz
      walk_at "rd"
      rename_i H3 s3
      rw [z3, z4, span_fs] at s3
      exact k _ s3.keep ⟨_, s3.get (by walk_at "mem"), _, rfl⟩
theorem mk_span {H0 H : Hp} {S : List Addr} {l : Led} {a b : Int} {Q : VK} {E : XK} (s : Stt H0 S l H) (h : b ≠ 0) (hb : b.natAbs < 2 ^ 8000) (k : ∀ p H', H0 p = none → Stt H0 S ((p, SpanO K (nO a b) (nU a b)) :: l) H' → Q (.ref p) H') :
    Rd.Make (He.ga K "Span") (spSpanInit K) [] E [.int a, .int b] H Q := by
  intro x dx hx hdx ne
  have s1 := s.new hdx (.own x)
  have hx' : upd H dx (HO.own x) x = none := by rw [upd_ne (Ne.symm ne)]; exact hx
  have s2 := s1.new hx' (.ins (He.ga K "Span") dx [])
  refine ⟨x, dx, a, b, rfl, upd_same, h, hb, fun H' kp hf => ⟨rfl, k x H' (s.none hx) ?_⟩⟩
  exact (s2.afterX kp (.inr (s.none hx)) hf).sub (List.Sublist.cons₂ _ (List.Sublist.cons _ (List.Sublist.refl _)))
theorem mk_span1 {H0 H : Hp} {S : List Addr} {l : Led} {a : Int} {Q : VK} {E : XK} (s : Stt H0 S l H) (k : ∀ p H', H0 p = none → Stt H0 S ((p, SpanO K (nO a 1) (nU a 1)) :: l) H' → Q (.ref p) H') :
    Rd.Make (He.ga K "Span") (spSpanInit K) [.int 1] E [.int a] H Q := mk_span (E := E) s (by decide) (by decide) k
local macro_rules | `(tactic| walk_at "ask") => `(tactic| ((with_reducible refine' mk_span ?v1 ?v2 ?v3 ?_); (case v1 => assumption); (case v2 => first | assumption | omega); (case v3 => first | assumption | omega); intro _ _ _ _))
local macro_rules | `(tactic| walk_at "ask") => `(tactic| ((with_reducible refine' mk_span1 ?v1 ?_); (case v1 => assumption); intro _ _ _ _))
/-- a Span's attributes -/
theorem fld_over {H0 H : Hp} {S : List Addr} {l : Led} {p : Addr} {a b : Int} {Q : VK} (c : Cls K (He.ga K "Span")) (n : NoAttr K (He.ga K "Span") "over") (s : Stt H0 S l H) (m : (p, SpanO K a b) ∈ l) (h : Q (.int a) H) : Rd.Fld K "over" (.ref p) H Q := by
  obtain ⟨o, h1, dx, rfl⟩ := s.pick m
  exact ⟨p, _, dx, _, _, rfl, h1, c, n, span_over a b, h⟩
theorem fld_under {H0 H : Hp} {S : List Addr} {l : Led} {p : Addr} {a b : Int} {Q : VK} (c : Cls K (He.ga K "Span")) (n : NoAttr K (He.ga K "Span") "under") (s : Stt H0 S l H) (m : (p, SpanO K a b) ∈ l) (h : Q (.int b) H) : Rd.Fld K "under" (.ref p) H Q := by
  obtain ⟨o, h1, dx, rfl⟩ := s.pick m
  exact ⟨p, _, dx, _, _, rfl, h1, c, n, span_under a b, h⟩
local macro_rules | `(tactic| walk_at "ask") => `(tactic| ((with_reducible refine' fld_over ?v1 ?v2 ?v3 ?v4 ?_); (case v1 => assumption); (case v2 => assumption); (case v3 => assumption); (case v4 => walk_at "mem")))
local macro_rules | `(tactic| walk_at "ask") => `(tactic| ((with_reducible refine' fld_under ?v1 ?v2 ?v3 ?v4 ?_); (case v1 => assumption); (case v2 => assumption); (case v3 => assumption); (case v4 => walk_at "mem")))
theorem span_ty {H0 H : Hp} {S : List Addr} {l : Led} {p : Addr} {a b : Int} (T : InsT K (He.ga K "Span")) (s : Stt H0 S l H) (m : (p, SpanO K a b) ∈ l) : TyX K H (.ref p) (.ref (He.ga K "Span")) := by
  obtain ⟨o, h1, dx, rfl⟩ := s.pick m
  exact T.ty h1
local macro_rules | `(tactic| walk_at "ty") => `(tactic| exact span_ty (by assumption) (by assumption) (by walk_at "mem"))
theorem IsNum.cases {H : Hp} {v : V} {a b : Int} {G : Prop} (h : IsNum K H v a b) (h1 : v = .int a → b = 1 → G) (h2 : ∀ p, v = .ref p → Stt H [] [(p, SpanO K a b)] H → G) : G := by
  rcases h with ⟨e1, e2⟩ | ⟨p, o, rfl, e1, e2⟩
  · exact h1 e1 e2
  · exact h2 p rfl ⟨.refl H, by simp, fun e m => by rw [List.mem_singleton.mp m]; exact ⟨o, e1, e2⟩⟩
/-- _halves(number) -/
def spHalves (K : PySem.W.Frag) : Sp := fun vs H Q _ => ∃ (v : V) (a b : Int), vs = [v] ∧ IsNum K H v a b ∧ ∀ p H', H p = none → Stt H [] [(p, Is (.tup [.int a, .int b]))] H' → Q (.ref p) H'
theorem ok_halves (T : Txt K mg) : FnOk P w K mg base CX0 2 (He.fAd K ("_halves", none)) T.fd_halves ["number"] (spHalves K) := by
  refine T.F_halves.ok sc_halves (fun vs H Q E h => ?_) (fun cdv A outer s H vs Q E hr h => ?_)
  · obtain ⟨v, a, b, rfl, _⟩ := h
    rfl
  · obtain ⟨v, a, b, rfl, hn, k⟩ := h
    refine ⟨_, PSs.nox (pss_cons (ps_if (pt_val (pe_callB call_isi (by rfl) T.n_isinstance (by decide +kernel) (pa_cons (pv 0) (pa_cons (pe_glob (v := .ref (He.ga K "Span")) rfl T.g_Span RelT.ref) pa_nil)))) (pss_one (ps_ret (pe_tup (pa_cons (pe_fld (pv 0) rfl) (pa_cons (pe_fld (pv 0) rfl) pa_nil)))))
   pss_nil)
  (pss_cons (ps_if (pt_val (pe_call (ok_is_integer T) (hr.mono (by decide)) rfl T.g_is_integer T.F_is_integer.kp T.b_is_integer .nil pass0 (pa_cons (pv 0) pa_nil))) (pss_one (ps_ret (pe_tup (pa_cons (pv 0) (pa_cons pe_int pa_nil)))))
   pss_nil)
  (pss_one ps_never))), ?_⟩
    walk_at "k"
    have c1 := T.c_Span
    have c2 := T.a_Span_over
    have c3 := T.a_Span_under
    have c4 := T.i_Span
    have c5 := T.q_int_Span
    have c6 := T.q_Span_Span
    refine hn.cases (fun e1 e2 => ?_) fun p e1 s0 => ?_
    · subst e1 e2
      have s0 : Stt H [] [] H := Stt.nil
      walk_at "rd"
      exact k _ _ (by assumption) (by assumption)
    · subst e1
      walk_at "rd"
      exact k _ _ (by assumption) (Stt.sub (H0 := H) (S := []) (by assumption) (List.Sublist.cons₂ _ (List.nil_sublist _)))
theorem halves_ask {H0 H : Hp} {S : List Addr} {l : Led} {v : V} {a b : Int} {Q : VK} {E : XK} (s : Stt H0 S l H) (h : IsNum K H v a b) (k : ∀ p H', H0 p = none → Kp [] H H' → Stt H0 S ((p, Is (.tup [.int a, .int b])) :: l) H' → Q (.ref p) H') : spHalves K ([v] ++ []) H Q E :=
  ⟨v, a, b, rfl, h, fun p H' hp s2 => k p H' (s.none hp) s2.keep ((s.after0 s2.keep).add (s2.pick List.mem_cons_self) (s.fresh hp))⟩
/-- Stt of a heap behind a call that only made new objects -/
theorem Stt.kp0 {H0 H H' : Hp} {l : Led} (h : Stt H0 [] l H) : Kp [] H0 H := h.keep
def spGap (K : PySem.W.Frag) : Sp := fun vs H Q _ => ∃ (x y : V) (a b c d : Int), vs = [x, y] ∧ IsNum K H x a b ∧ IsNum K H y c d ∧ (a.natAbs < 2 ^ 3000 ∧ b.natAbs < 2 ^ 3000 ∧ c.natAbs < 2 ^ 3000 ∧ d.natAbs < 2 ^ 3000) ∧ ∀ H', Kp [] H H' → Q (.int (a * d - c * b)) H'
theorem mulW {i j : Int} (h1 : i.natAbs < 2 ^ 3000) (h2 : j.natAbs < 2 ^ 3000) : CMulW i j := wide_mul h1 h2 (by decide) (by decide) (by decide)
theorem ok_gap (T : Txt K mg) : FnOk P w K mg base CX0 3 (He.fAd K ("_gap", none)) T.fd_gap ["one", "two"] (spGap K) := by
  refine T.F_gap.ok sc_gap (fun vs H Q E h => ?_) (fun cdv A outer s H vs Q E hr h => ?_)
  · obtain ⟨x, y, a, b, c, d, rfl, _⟩ := h
    rfl
  · obtain ⟨x, y, a, b, c, d, rfl, hx, hy, hb, k⟩ := h
    refine ⟨_, PSs.nox (pss_cons (ps_asg (pe_call (ok_halves T) (hr.mono (by decide)) rfl T.g_halves T.F_halves.kp T.b_halves .nil pass0 (pa_cons (pv 0) pa_nil)) (pg_tup (by rfl) (pgs_cons (pg_name (i := 2) sc_gap.nd rfl (by first | exact Or.inl rfl | exact Or.inr rfl)) (pgs_cons (pg_name (i := 3) sc_gap.nd rfl (by first | exact Or.inl rfl | exact Or.inr rfl)) pgs_nil))))
  (pss_cons (ps_asg (pe_call (ok_halves T) (hr.mono (by decide)) rfl T.g_halves T.F_halves.kp T.b_halves .nil pass0 (pa_cons (pv 1) pa_nil)) (pg_tup (by rfl) (pgs_cons (pg_name (i := 4) sc_gap.nd rfl (by first | exact Or.inl rfl | exact Or.inr rfl)) (pgs_cons (pg_name (i := 5) sc_gap.nd rfl (by first | exact Or.inl rfl | exact Or.inr rfl)) pgs_nil))))
  (pss_one (ps_ret (pe_op op_sub (pe_op op_mulW (pv 2) (pv 5)) (pe_op op_mulW (pv 4) (pv 3))))))), ?_⟩
    walk_at "k"
    have s0 : Stt H [] [] H := Stt.nil
    walk_at "rd"
    refine halves_ask s0 hx fun p H1 hp k1 s1 => ?_
    walk_at "rd"
    refine halves_ask s1 (hy.kp0 k1) fun q H2 hq k2 s2 => ?_
    walk_at "rd"
    have m1 : CMulW a d := mulW hb.1 hb.2.2.2
    have m2 : CMulW c b := mulW hb.2.2.1 hb.2.1
    walk_at "rd"
    exact k _ s2.keep
theorem gap_ask {H0 H : Hp} {S : List Addr} {l : Led} {x y : V} {a b c d : Int} {Q : VK} {E : XK} (s : Stt H0 S l H) (hx : IsNum K H x a b) (hy : IsNum K H y c d) (hb : a.natAbs < 2 ^ 3000 ∧ b.natAbs < 2 ^ 3000 ∧ c.natAbs < 2 ^ 3000 ∧ d.natAbs < 2 ^ 3000)
    (k : ∀ H', Kp [] H H' → Stt H0 S l H' → Q (.int (a * d - c * b)) H') : spGap K ([x, y] ++ []) H Q E := ⟨x, y, a, b, c, d, rfl, hx, hy, hb, fun H' q => k H' q (s.after0 q)⟩
/-- the orders -/
def spCmp (K : PySem.W.Frag) (f : Int → Bool) : Sp := fun vs H Q _ => ∃ (x y : V) (a b c d : Int), vs = [x, y] ∧ IsNum K H x a b ∧ IsNum K H y c d ∧ (a.natAbs < 2 ^ 3000 ∧ b.natAbs < 2 ^ 3000 ∧ c.natAbs < 2 ^ 3000 ∧ d.natAbs < 2 ^ 3000) ∧ ∀ H', Kp [] H H' → Q (.bl (f (a * d - c * b))) H'
theorem ok_Span_lt (T : Txt K mg) : FnOk P w K mg base CX0 4 (He.fAd K ("Span", some "__lt__")) T.fd_Span_lt ["self", "other"] (spCmp K fun z => decide (z < 0)) := by
  refine T.F_Span_lt.ok sc_Span_lt (fun vs H Q E h => ?_) (fun cdv A outer s H vs Q E hr h => ?_)
  · obtain ⟨x, y, a, b, c, d, rfl, _⟩ := h
    rfl
  · obtain ⟨x, y, a, b, c, d, rfl, hx, hy, hb, k⟩ := h
    refine ⟨_, PSs.nox (pss_one (ps_ret (pe_cmpR op_lt (pe_call (ok_gap T) (hr.mono (by decide)) rfl T.g_gap T.F_gap.kp T.b_gap .nil pass0 (pa_cons (pv 0) (pa_cons (pv 1) pa_nil))) pe_int (nomark _)))), ?_⟩
    walk_at "k"
    have s0 : Stt H [] [] H := Stt.nil
    walk_at "rd"
    refine gap_ask s0 hx hy hb fun H1 k1 s1 => ?_
    walk_at "rd"
    exact k _ k1
theorem ok_Span_le (T : Txt K mg) : FnOk P w K mg base CX0 4 (He.fAd K ("Span", some "__le__")) T.fd_Span_le ["self", "other"] (spCmp K fun z => decide (z ≤ 0)) := by
  refine T.F_Span_le.ok sc_Span_le (fun vs H Q E h => ?_) (fun cdv A outer s H vs Q E hr h => ?_)
  · obtain ⟨x, y, a, b, c, d, rfl, _⟩ := h
    rfl
  · obtain ⟨x, y, a, b, c, d, rfl, hx, hy, hb, k⟩ := h
    refine ⟨_, PSs.nox (pss_one (ps_ret (pe_cmpR op_le (pe_call (ok_gap T) (hr.mono (by decide)) rfl T.g_gap T.F_gap.kp T.b_gap .nil pass0 (pa_cons (pv 0) (pa_cons (pv 1) pa_nil))) pe_int (nomark _)))), ?_⟩
    walk_at "k"
    have s0 : Stt H [] [] H := Stt.nil
    walk_at "rd"
    refine gap_ask s0 hx hy hb fun H1 k1 s1 => ?_
    walk_at "rd"
    exact k _ k1
theorem ok_Span_gt (T : Txt K mg) : FnOk P w K mg base CX0 4 (He.fAd K ("Span", some "__gt__")) T.fd_Span_gt ["self", "other"] (spCmp K fun z => decide (0 < z)) := by
  refine T.F_Span_gt.ok sc_Span_gt (fun vs H Q E h => ?_) (fun cdv A outer s H vs Q E hr h => ?_)
  · obtain ⟨x, y, a, b, c, d, rfl, _⟩ := h
    rfl
  · obtain ⟨x, y, a, b, c, d, rfl, hx, hy, hb, k⟩ := h
    refine ⟨_, PSs.nox (pss_one (ps_ret (pe_cmpR op_gt (pe_call (ok_gap T) (hr.mono (by decide)) rfl T.g_gap T.F_gap.kp T.b_gap .nil pass0 (pa_cons (pv 0) (pa_cons (pv 1) pa_nil))) pe_int (nomark _)))), ?_⟩
    walk_at "k"
    have s0 : Stt H [] [] H := Stt.nil
    walk_at "rd"
    refine gap_ask s0 hx hy hb fun H1 k1 s1 => ?_
    walk_at "rd"
    exact k _ k1
theorem ok_Span_ge (T : Txt K mg) : FnOk P w K mg base CX0 4 (He.fAd K ("Span", some "__ge__")) T.fd_Span_ge ["self", "other"] (spCmp K fun z => decide (0 ≤ z)) := by
  refine T.F_Span_ge.ok sc_Span_ge (fun vs H Q E h => ?_) (fun cdv A outer s H vs Q E hr h => ?_)
  · obtain ⟨x, y, a, b, c, d, rfl, _⟩ := h
    rfl
  · obtain ⟨x, y, a, b, c, d, rfl, hx, hy, hb, k⟩ := h
    refine ⟨_, PSs.nox (pss_one (ps_ret (pe_cmpR op_ge (pe_call (ok_gap T) (hr.mono (by decide)) rfl T.g_gap T.F_gap.kp T.b_gap .nil pass0 (pa_cons (pv 0) (pa_cons (pv 1) pa_nil))) pe_int (nomark _)))), ?_⟩
    walk_at "k"
    have s0 : Stt H [] [] H := Stt.nil
    walk_at "rd"
    refine gap_ask s0 hx hy hb fun H1 k1 s1 => ?_
    walk_at "rd"
    exact k _ k1
/-- == -/
def NoNum (K : PySem.W.Frag) (H : Hp) (y : V) : Prop := ∃ (t : Value) (i j : Bool), TyX K H y t ∧ PySem.W.kitOne K t (.ref (He.ga K "Span")) = some false ∧ PySem.W.kitOne K t (.type "int") = some i ∧ PySem.W.kitOne K t (.type "bool") = some j ∧ (i && !j) = false
def spEqS (K : PySem.W.Frag) : Sp := fun vs H Q _ => ∃ (p : Addr) (a b : Int) (y : V) (r : Bool), vs = [.ref p, y] ∧ (∃ o, H p = some o ∧ SpanO K a b o) ∧ ((∃ c d, IsNum K H y c d ∧ r = decide (a = c ∧ b = d)) ∨ NoNum K H y ∧ r = false) ∧ Q (.bl r) H
theorem ok_Span_eq (T : Txt K mg) : FnOk P w K mg base CX0 2 (He.fAd K ("Span", some "__eq__")) T.fd_Span_eq ["self", "other"] (spEqS K) := by
  refine T.F_Span_eq.ok sc_Span_eq (fun vs H Q E h => ?_) (fun cdv A outer s H vs Q E hr h => ?_)
  · obtain ⟨p, a, b, y, r, rfl, _⟩ := h
    rfl
  · obtain ⟨p, a, b, y, r, rfl, ⟨o, h1, h2⟩, hy, k⟩ := h
    refine ⟨_, PSs.nox (pss_cons (ps_if (pt_val (pe_callB call_isi (by rfl) T.n_isinstance (by decide +kernel) (pa_cons (pv 1) (pa_cons (pe_glob (v := .ref (He.ga K "Span")) rfl T.g_Span RelT.ref) pa_nil)))) (pss_one (ps_ret (pe_and (pe_cmpR op_eq (pe_fld (pv 0) rfl) (pe_fld (pv 1) rfl) (nomark _)) (pe_one (pe_cmpR op_eq (pe_fld (pv 0) rfl) (pe_fld (pv 1) rfl) (nomark _))))))
   pss_nil)
  (pss_one (ps_ret (pe_and (pe_call (ok_is_integer T) (hr.mono (by decide)) rfl T.g_is_integer T.F_is_integer.kp T.b_is_integer .nil pass0 (pa_cons (pv 1) pa_nil)) (pe_and (pe_cmpR op_eq (pe_fld (pv 0) rfl) pe_int (nomark _)) (pe_one (pe_cmpR op_eq (pe_fld (pv 0) rfl) (pv 1) (nomark _)))))))), ?_⟩
    walk_at "k"
    have c1 := T.c_Span
    have c2 := T.a_Span_over
    have c3 := T.a_Span_under
    have c4 := T.i_Span
    have c5 := T.q_int_Span
    have c6 := T.q_Span_Span
    have s0 : Stt H [] [(p, SpanO K a b)] H := ⟨.refl H, by simp, fun e m => by rw [List.mem_singleton.mp m]; exact ⟨o, h1, h2⟩⟩
    have dE : ∀ {a c : Int}, decide (V.int a = V.int c) = decide (a = c) := fun {a c} => by simp
    rcases hy with ⟨c, d, hy, rfl⟩ | ⟨⟨t, i, j, ty, q1, q2, q3, q4⟩, rfl⟩
    · refine hy.cases (fun e1 e2 => ?_) fun q e1 s1 => ?_
      · subst e1 e2
        walk_at "rd"
        refine Rd.brD (fun e => ?_) (fun e => ?_)
        · walk_at "rd"
          have z : decide (a = c ∧ b = 1) = decide (V.int a = V.int c) := by
            have := V.int.inj e
            simp [this]
          rw [← z]
          exact k
        · have z : decide (a = c ∧ b = 1) = false := by
            refine decide_eq_false fun h => e ?_
            rw [h.2]
          rw [z] at k
          walk_at "rd"
          exact k
      · subst e1
        have fin : ∀ l, Stt H [] ((q, SpanO K c d) :: l) H → (p, SpanO K a b) ∈ ((q, SpanO K c d) :: l) → True := fun _ _ _ => trivial
        by_cases hpq : p = q
        · subst hpq
          obtain ⟨o1, g1, dx1, rfl⟩ := s0.pick (a := p) (f := SpanO K a b) (by walk_at "mem")
          obtain ⟨o2, g2, dx2, rfl⟩ := s1.pick (a := p) (f := SpanO K c d) (by walk_at "mem")
          rw [g1] at g2
          have g3 := Option.some.inj g2
          injection g3 with _ _ g4
          injection g4 with g5 g6
          injection g5 with _ g7
          injection g6 with g8
          injection g8 with _ g9
          cases V.int.inj g7
          cases V.int.inj g9
          walk_at "rd"
          have z : decide (a = a ∧ b = b) = decide (V.int b = V.int b) := by simp
          rw [← z]
          exact k
        · have s2 : Stt H [] [(q, SpanO K c d), (p, SpanO K a b)] H := s0.add (s1.pick (by walk_at "mem")) (by simp [Ne.symm hpq])
          clear s0 s1
          walk_at "rd"
          refine Rd.brD (fun e => ?_) (fun e => ?_)
          · walk_at "rd"
            have z : decide (a = c ∧ b = d) = decide (V.int b = V.int d) := by
              have := V.int.inj e
              simp [this]
            rw [← z]
            exact k
          · have z : decide (a = c ∧ b = d) = false := by
              refine decide_eq_false fun h => e ?_
              rw [h.1]
            rw [z] at k
            walk_at "rd"
            exact k
    · walk_at "rd"
      refine ⟨y, t, i, j, rfl, ty, q2, q3, ?_⟩
      rw [q4]
      walk_at "rd"
      exact k
end

end
section
local macro_rules | `(tactic| walk_at "subl") => `(tactic| first | with_reducible exact List.nil_sublist _ | with_reducible exact List.Sublist.refl _ | (with_reducible refine List.Sublist.cons₂ _ ?_; walk_at "subl") | (with_reducible refine List.Sublist.cons _ ?_; walk_at "subl"))
local macro_rules | `(tactic| walk_at "k") => `(tactic| try dsimp only [L2.cxOf, L2.Cx.nox, L2.Cx.wish, L2.Cx.blk])
local macro_rules | `(tactic| walk_at "ask") => `(tactic| fail)
local macro_rules | `(tactic| walk_at "mem") => `(tactic| first | with_reducible exact List.mem_cons_self | (with_reducible apply List.mem_cons_of_mem; walk_at "mem"))
local macro_rules | `(tactic| walk_at "put") => `(tactic| first | with_reducible exact Lt.Put.head | (with_reducible apply Lt.Put.tail; walk_at "put"))
local macro_rules | `(tactic| walk_at "own") => `(tactic| first | exact Or.inr (by assumption) | exact Or.inl (by walk_at "mem"))
local macro_rules | `(tactic| walk_at "cnd") => `(tactic| first | assumption | decide | ((try dsimp only); omega) | (unfold CMul; omega) | (unfold CDiv; omega) | (unfold CPow; omega) | exact Or.inr (by decide) | exact Or.inl (by decide) | exact wide_div (b := 128) (by omega) (by omega) (by decide) (by decide))
local macro_rules | `(tactic| walk_at "at") => `(tactic| first | exact rfl | assumption)
local macro_rules | `(tactic| walk_at "kit") => `(tactic| first | assumption | exact kit_int_int | exact kit_int_bool | exact kit_int_str | exact kit_int_list | exact kit_int_tuple | exact kit_int_dict | exact kit_bool_int | exact kit_bool_bool | exact kit_bool_str | exact kit_bool_list | exact kit_bool_tuple | exact kit_bool_dict | exact kit_str_int | exact kit_str_bool | exact kit_str_str | exact kit_str_list | exact kit_str_tuple | exact kit_str_dict | exact kit_list_int | exact kit_list_bool | exact kit_list_str | exact kit_list_list | exact kit_list_tuple | exact kit_list_dict | exact kit_tuple_int | exact kit_tuple_bool | exact kit_tuple_str | exact kit_tuple_list | exact kit_tuple_tuple | exact kit_tuple_dict | exact kit_dict_int | exact kit_dict_bool | exact kit_dict_str | exact kit_dict_list | exact kit_dict_tuple | exact kit_dict_dict | exact kit_NoneType_int | exact kit_NoneType_bool | exact kit_NoneType_str | exact kit_NoneType_list | exact kit_NoneType_tuple | exact kit_NoneType_dict)
local macro_rules | `(tactic| walk_at "kitA") => `(tactic| first | assumption | exact kitA_lt_int | exact kitA_lt_bool | exact kitA_lt_str | exact kitA_lt_list | exact kitA_lt_tuple | exact kitA_lt_dict | exact kitA_lt_NoneType | exact kitA_bilt_int | exact kitA_bilt_bool | exact kitA_bilt_str | exact kitA_bilt_list | exact kitA_bilt_tuple | exact kitA_bilt_dict | exact kitA_bilt_NoneType)
local macro_rules | `(tactic| walk_at "ty") => `(tactic| first | exact .base (.int _) | exact .base (.bl _) | exact .base (.str _) | exact .base .non | exact .base (.lst (Stt.get (by assumption) (by walk_at "mem"))) | exact .base (.tup (Stt.get (by assumption) (by walk_at "mem"))) | exact .base (.dK (Stt.get (by assumption) (by walk_at "mem"))) | exact sqL_ty (Stt.upL (by assumption) (by assumption)) | exact sqT_ty (Stt.upT (by assumption) (by assumption)) | exact InsT.ty (by assumption) (Stt.get (by assumption) (by walk_at "mem")) | assumption)
local macro_rules | `(tactic| walk_at "rd1") => `(tactic| first
  | with_reducible refine' Rd.seq ?_
  | with_reducible refine' Rd.asg ?_
  | ((with_reducible refine' Rd.var ?vh ?_); (case vh => exact rfl))
  | with_reducible refine' Rd.con ?_
  | with_reducible refine' Rd.op ?_
  | with_reducible refine' Rd.i0 ?_
  | ((with_reducible refine' Rd.ic ?vh ?_); (case vh => walk_at "cnd"))
  | ((with_reducible refine' Rd.ixL ?v1 ?v2 ?v3 ?_); (case v1 => assumption); (case v2 => walk_at "mem"); (case v3 => walk_at "at"))
  | ((with_reducible refine' Rd.ixT ?v1 ?v2 ?v3 ?_); (case v1 => assumption); (case v2 => walk_at "mem"); (case v3 => walk_at "at"))
  | ((with_reducible refine' Rd.ixD2 ?v1 ?v2 ?_); (case v1 => assumption); (case v2 => walk_at "mem"); intro _)
  | ((with_reducible refine' Rd.ixD3 ?v1 ?v2 ?_); (case v1 => assumption); (case v2 => walk_at "mem"); intro _)
  | ((with_reducible refine' Rd.setD2 ?v1 ?v2 ?v3 ?v4 ?_); (case v1 => assumption); (case v2 => walk_at "mem"); (case v3 => walk_at "put"); (case v4 => walk_at "own"); intro _ _)
  | ((with_reducible refine' Rd.isi ?v1 ?v2 ?v3 ?_); (case v1 => walk_at "ty"); (case v2 => first | exact ClsV.ty _ | exact ClsV.own _); (case v3 => walk_at "kit"))
  | with_reducible refine' Rd.fld ?_
  | ((with_reducible refine' Rd.fldI ?v1 ?v2 ?v3 ?v4 ?v5 ?_); (case v1 => assumption); (case v2 => walk_at "mem"); (case v3 => assumption); (case v4 => assumption); (case v5 => walk_at "at"))
  | with_reducible refine' Rd.sfld ?_
  | ((with_reducible refine' Rd.sfldI ?v1 ?v2 ?v3 ?v4 ?v5 ?v6 ?v7 ?_); (case v1 => assumption); (case v2 => walk_at "mem"); (case v3 => assumption); (case v4 => assumption); (case v5 => first | decide | (refine Nat.lt_of_le_of_lt (putF_len _ _ _) ?_; decide)); (case v6 => walk_at "put"); (case v7 => walk_at "own"); intro _ _)
  | with_reducible refine' Rd.make ?_
  | with_reducible refine' Rd.gcd ?_
  | with_reducible refine' Rd.cons ?_
  | with_reducible refine' Rd.nil ?_
  | with_reducible refine' Rd.cb ?_
  | with_reducible refine' Rd.intI ?_
  | with_reducible refine' Rd.absI ?_
  | ((with_reducible refine' Rd.lenL ?v1 ?v2 ?_); (case v1 => assumption); (case v2 => walk_at "mem"))
  | ((with_reducible refine' Rd.lenT ?v1 ?v2 ?_); (case v1 => assumption); (case v2 => walk_at "mem"))
  | ((with_reducible refine' Rd.lenBL ?v1 ?v2 ?v3 ?_); (case v1 => assumption); (case v2 => assumption); (case v3 => first | exact List.not_mem_nil | assumption))
  | ((with_reducible refine' Rd.lenBT ?v1 ?v2 ?v3 ?_); (case v1 => assumption); (case v2 => assumption); (case v3 => first | exact List.not_mem_nil | assumption))
  | ((with_reducible refine' Rd.ixBL ?v1 ?v2 ?v4 ?v3 ?_); (case v1 => assumption); (case v2 => assumption); (case v4 => first | exact List.not_mem_nil | assumption); (case v3 => walk_at "at"))
  | ((with_reducible refine' Rd.ixBT ?v1 ?v2 ?v4 ?v3 ?_); (case v1 => assumption); (case v2 => assumption); (case v4 => first | exact List.not_mem_nil | assumption); (case v3 => walk_at "at"))
  | ((with_reducible refine' Rd.brI ?vh ?_); (case vh => with_reducible exact rfl))
  | with_reducible refine' Rd.ifS ?_
  | with_reducible refine' Rd.test ?_
  | with_reducible refine' Rd.tbl ?_
  | with_reducible refine' Rd.bl ?_
  | with_reducible refine' Rd.brTT ?_
  | with_reducible refine' Rd.brFF ?_
  | with_reducible refine' Rd.brN ?_
  | ((with_reducible refine' Rd.aug ?vh ?_); (case vh => exact rfl))
  | with_reducible refine' Rd.ipI ?_
  | with_reducible refine' Rd.blV ?_
  | with_reducible refine' Rd.notVL ?_
  | with_reducible refine' Rd.andT ?_
  | with_reducible refine' Rd.orT ?_
  | with_reducible refine' Rd.notT ?_
  | with_reducible refine' Rd.andV ?_
  | with_reducible refine' Rd.orV ?_
  | with_reducible refine' Rd.notV ?_
  | with_reducible refine' Rd.ifE ?_
  | ((with_reducible refine' Rd.eqS ?vh ?_); (case vh => exact rfl))
  | ((with_reducible refine' Rd.neS ?vh ?_); (case vh => exact rfl))
  | with_reducible refine' Rd.par ?_
  | with_reducible refine' Rd.parL ?_
  | with_reducible refine' Rd.un ?_
  | with_reducible refine' Rd.u1 ?_
  | with_reducible refine' Rd.sub ?_
  | ((with_reducible refine' Rd.setL ?v1 ?v2 ?v3 ?v4 ?v5 ?_); (case v1 => assumption); (case v2 => walk_at "mem"); (case v3 => walk_at "at"); (case v4 => walk_at "put"); (case v5 => walk_at "own"); intro _ _)
  | with_reducible refine' Rd.tup ?_
  | with_reducible refine' Rd.lst ?_
  | ((with_reducible refine' Rd.tupN ?v1 ?v2 ?_); (case v1 => assumption); (case v2 => simp only [List.length_cons, List.length_nil]; decide); intro _ _ _ _)
  | ((with_reducible refine' Rd.lstN ?v1 ?v2 ?_); (case v1 => assumption); (case v2 => simp only [List.length_cons, List.length_nil]; decide); intro _ _ _ _)
  | with_reducible refine' Rd.ret ?_
  | with_reducible refine' Rd.drop ?_
  | with_reducible refine' Rd.retN ?_
  | with_reducible refine' Rd.next ?_
  | with_reducible refine' Rd.brk ?_
  | with_reducible refine' Rd.cont ?_
  | with_reducible refine' Rd.call ?_
  | walk_at "ask"
  | with_reducible refine' Rd.bm ?_
  | ((with_reducible refine' Rd.bmL ?v1 ?v2 ?_); (case v1 => assumption); (case v2 => walk_at "mem"))
  | ((with_reducible refine' Rd.app ?v1 ?v2 ?v3 ?v4 ?v5 ?_); (case v1 => assumption); (case v2 => walk_at "mem"); (case v3 => simp only [List.length_cons, List.length_nil, List.length_append]; omega); (case v4 => walk_at "put"); (case v5 => walk_at "own"); intro _ _)
  | with_reducible refine' Rd.asgT ?_
  | ((with_reducible refine' Rd.gtup ?v1 ?v2 ?v3 ?_); (case v1 => assumption); (case v2 => walk_at "mem"); (case v3 => exact rfl))
  | with_reducible refine' Rd.gcons ?_
  | with_reducible refine' Rd.gname ?_
  | with_reducible refine' Rd.gnil ?_
  | with_reducible refine' Rd.sl ?_
  | with_reducible refine' Rd.noPart ?_
  | with_reducible refine' Rd.part ?_
  | with_reducible refine' Rd.prt ?_
  | with_reducible refine' Rd.isB ?_
  | ((with_reducible refine' Rd.wp ?vh ?_); (case vh => exact rfl))
  | with_reducible refine' Rd.makeK ?_
  | with_reducible refine' Rd.meth ?_
  | ((with_reducible refine' Rd.catL ?v1 ?v2 ?v3 ?v4 ?_); (case v1 => assumption); (case v2 => walk_at "mem"); (case v3 => walk_at "mem"); (case v4 => simp only [List.length_cons, List.length_nil, List.length_append]; omega); intro _ _ _ _)
  | with_reducible refine' Rd.dnew ?_
  | ((with_reducible refine' Rd.dnewL ?v1 ?_); (case v1 => assumption); intro _ _ _ _)
  | with_reducible refine' Rd.lc ?_
  | with_reducible refine' Rd.wZ ?_
  | with_reducible refine' Rd.tYesH ?_
  | with_reducible refine' Rd.fmt ?_
  | with_reducible refine' Rd.joined ?_
  | with_reducible refine' Rd.jsNil ?_
  | with_reducible refine' Rd.jsCons ?_
  | ((with_reducible refine' Rd.isiT ?v1 ?v2 ?v3 ?v4 ?v5 ?_); (case v1 => assumption); (case v2 => walk_at "mem"); (case v3 => walk_at "ty"); (case v4 => first | exact .cons (.ty _) (.cons (.ty _) .nil) | exact .cons (.ty _) (.cons (.ty _) (.cons (.ty _) (.cons (.ty _) .nil))) | exact .cons (.ty _) (.cons (.ty _) (.cons (.ty _) .nil))); (case v5 => walk_at "kitA"))
  | with_reducible refine' Rd.forS ?_
  | with_reducible refine' Rd.wEnT ?_
  | ((with_reducible refine' Rd.wEnTL ?v1 ?v2 ?_); (case v1 => assumption); (case v2 => walk_at "mem"))
  | with_reducible refine' Rd.wL ?_
  | ((with_reducible refine' Rd.wLL ?v1 ?v2 ?_); (case v1 => assumption); (case v2 => walk_at "mem"))
  | with_reducible refine' Rd.wT ?_
  | ((with_reducible refine' Rd.wTL ?v1 ?v2 ?_); (case v1 => assumption); (case v2 => walk_at "mem"))
  | with_reducible refine' Rd.wR1 ?_
  | ((with_reducible refine' Rd.wR1L ?v1 ?v2 ?_); (case v1 => omega); (case v2 => omega))
  | with_reducible refine' Rd.wR2 ?_
  | ((with_reducible refine' Rd.wR2L ?v1 ?_); (case v1 => omega)))
local macro_rules | `(tactic| walk_at "rd") => `(tactic| repeat (walk_at "rd1"))

local macro_rules | `(tactic| walk_at "ask") => `(tactic| ((with_reducible refine' fill_ask ?v1 ?v2 ?v3 ?v4 ?v5 ?_); (case v1 => assumption); (case v2 => walk_at "mem"); (case v3 => walk_at "mem"); (case v4 => assumption); (case v5 => walk_at "own"); intro _ _))

local macro_rules | `(tactic| walk_at "ask") => `(tactic| ((with_reducible refine' take_ask ?v1 ?v2 ?v3 ?v4 ?v5 ?v6 ?_); (case v1 => assumption); (case v2 => walk_at "mem"); (case v3 => walk_at "mem"); (case v4 => assumption); (case v5 => walk_at "own"); (case v6 => first | decide | omega); intro _ _ _ _))
local macro_rules | `(tactic| walk_at "ask") => `(tactic| ((with_reducible refine' one_ask ?v1 ?v2 ?v3 ?v4 ?v5 ?_); (case v1 => assumption); (case v2 => walk_at "subl"); (case v3 => assumption); (case v4 => walk_at "own"); (case v5 => simp only [List.length_append, List.length_cons, List.length_nil]; decide); intro _ _ _ _))
local macro_rules | `(tactic| walk_at "ask") => `(tactic| ((with_reducible refine' fig_ask ?v1 ?v2 ?v3 ?v4 ?_); (case v1 => assumption); (case v2 => walk_at "subl"); (case v3 => assumption); (case v4 => walk_at "own"); intro _ _ _ _))
local macro_rules | `(tactic| walk_at "ask") => `(tactic| ((with_reducible refine' low_ask ?v1 ?v2 ?v3 ?v4 ?_); (case v1 => assumption); (case v2 => first | assumption | omega); (case v3 => omega); (case v4 => omega); intro _ _ _ _))
local macro_rules | `(tactic| walk_at "ask") => `(tactic| ((with_reducible refine' frac_ask ?v1 ?v2 ?v3 ?v4 ?_); (case v1 => assumption); (case v2 => walk_at "subl"); (case v3 => assumption); (case v4 => walk_at "own"); intro _ _ _ _ _ _ _))

local macro_rules | `(tactic| walk_at "ask") => `(tactic| with_reducible refine' isI_int ?_)
local macro_rules | `(tactic| walk_at "ask") => `(tactic| ((with_reducible refine' mk_span ?v1 ?v2 ?v3 ?_); (case v1 => assumption); (case v2 => first | assumption | omega); (case v3 => first | assumption | omega); intro _ _ _ _))
local macro_rules | `(tactic| walk_at "ask") => `(tactic| ((with_reducible refine' mk_span1 ?v1 ?_); (case v1 => assumption); intro _ _ _ _))
local macro_rules | `(tactic| walk_at "ask") => `(tactic| ((with_reducible refine' fld_over ?v1 ?v2 ?v3 ?v4 ?_); (case v1 => assumption); (case v2 => assumption); (case v3 => assumption); (case v4 => walk_at "mem")))
local macro_rules | `(tactic| walk_at "ask") => `(tactic| ((with_reducible refine' fld_under ?v1 ?v2 ?v3 ?v4 ?_); (case v1 => assumption); (case v2 => assumption); (case v3 => assumption); (case v4 => walk_at "mem")))
local macro_rules | `(tactic| walk_at "ty") => `(tactic| exact span_ty (by assumption) (by assumption) (by walk_at "mem"))

section
variable {P : Program} {w : World} {K : PySem.W.Frag} {mg : Str → Option Value} {base : Heap}
theorem pw {a b : Int} {m n k : Nat} (h1 : a.natAbs < 2 ^ m) (h2 : b.natAbs < 2 ^ n) (h : m + n ≤ k) : (a * b).natAbs < 2 ^ k := by
  rw [Int.natAbs_mul]
  refine Nat.lt_of_lt_of_le (Nat.mul_lt_mul_of_lt_of_le h1 (Nat.le_of_lt h2) (Nat.lt_of_le_of_lt (Nat.zero_le _) h2)) ?_
  rw [← Nat.pow_add]
  exact Nat.pow_le_pow_right (by decide) h
theorem up {a : Int} {m k : Nat} (h1 : a.natAbs < 2 ^ m) (h : m ≤ k) : a.natAbs < 2 ^ k := Nat.lt_of_lt_of_le h1 (Nat.pow_le_pow_right (by decide) h)
structure Ar (K : PySem.W.Frag) (H : Hp) (x y : V) (a b c d : Int) : Prop where
  x : IsNum K H x a b
  y : IsNum K H y c d
  bz : b ≠ 0
  dz : d ≠ 0
  a2 : a.natAbs < 2 ^ 200
  b2 : b.natAbs < 2 ^ 200
  c2 : c.natAbs < 2 ^ 200
  d2 : d.natAbs < 2 ^ 200
def spAr (K : PySem.W.Frag) (N D : Int → Int → Int → Int → Int) : Sp := fun vs H Q _ => ∃ (x y : V) (a b c d : Int), vs = [x, y] ∧ Ar K H x y a b c d ∧
  ∀ p H', H p = none → Stt H [] [(p, SpanO K (nO (N a b c d) (D a b c d)) (nU (N a b c d) (D a b c d)))] H' → Q (.ref p) H'
def spArR (K : PySem.W.Frag) (N D : Int → Int → Int → Int → Int) : Sp := fun vs H Q E => ∃ x y, vs = [y, x] ∧ spAr K N D [x, y] H Q E
theorem ok_sum (T : Txt K mg) : FnOk P w K mg base CX0 4 (He.fAd K ("_sum", none)) T.fd_sum ["one", "two"] (spAr K (fun a b c d => a * d + c * b) (fun a b c d => b * d)) := by
  refine T.F_sum.ok sc_sum (fun vs H Q E h => ?_) (fun cdv A outer s H vs Q E hr h => ?_)
  · obtain ⟨x, y, a, b, c, d, rfl, _⟩ := h
    rfl
  · obtain ⟨x, y, a, b, c, d, rfl, ⟨hx, hy, hb, hd, a2, b2, c2, d2⟩, k⟩ := h
    refine ⟨_, PSs.nox (pss_cons (ps_asg (pe_call (ok_halves T) (hr.mono (by decide)) rfl T.g_halves T.F_halves.kp T.b_halves .nil pass0 (pa_cons (pv 0) pa_nil)) (pg_tup (by rfl) (pgs_cons (pg_name (i := 2) sc_sum.nd rfl (by first | exact Or.inl rfl | exact Or.inr rfl)) (pgs_cons (pg_name (i := 3) sc_sum.nd rfl (by first | exact Or.inl rfl | exact Or.inr rfl)) pgs_nil))))
  (pss_cons (ps_asg (pe_call (ok_halves T) (hr.mono (by decide)) rfl T.g_halves T.F_halves.kp T.b_halves .nil pass0 (pa_cons (pv 1) pa_nil)) (pg_tup (by rfl) (pgs_cons (pg_name (i := 4) sc_sum.nd rfl (by first | exact Or.inl rfl | exact Or.inr rfl)) (pgs_cons (pg_name (i := 5) sc_sum.nd rfl (by first | exact Or.inl rfl | exact Or.inr rfl)) pgs_nil))))
  (pss_one (ps_ret (pe_makeX T.k_Span (ok_Span_init T) (hr.mono (by decide)) rfl T.g_Span T.b_Span_init2 pass0 (pa_cons (pe_op op_add (pe_op op_mulW (pv 2) (pv 5)) (pe_op op_mulW (pv 4) (pv 3))) (pa_cons (pe_op op_mulW (pv 3) (pv 5)) pa_nil))))))), ?_⟩
    walk_at "k"
    have s0 : Stt H [] [] H := Stt.nil
    walk_at "rd"
    refine halves_ask s0 hx fun p H1 hp k1 s1 => ?_
    walk_at "rd"
    refine halves_ask s1 (hy.kp0 k1) fun q H2 hq k2 s2 => ?_
    have m1 : CMulW a d := mulW (up a2 (by decide)) (up d2 (by decide))
    have m2 : CMulW c b := mulW (up c2 (by decide)) (up b2 (by decide))
    have m3 : CMulW b d := mulW (up b2 (by decide)) (up d2 (by decide))
    have m4 : CMulW a c := mulW (up a2 (by decide)) (up c2 (by decide))
    have z1 : b * d ≠ 0 := Int.mul_ne_zero hb hd
    have z2 : (b * d).natAbs < 2 ^ 8000 := pw b2 d2 (by decide)
    walk_at "rd"
    exact k _ _ (by assumption) (Stt.sub (H0 := H) (S := []) (by assumption) (by walk_at "subl"))
theorem ok_difference (T : Txt K mg) : FnOk P w K mg base CX0 4 (He.fAd K ("_difference", none)) T.fd_difference ["one", "two"] (spAr K (fun a b c d => a * d - c * b) (fun a b c d => b * d)) := by
  refine T.F_difference.ok sc_difference (fun vs H Q E h => ?_) (fun cdv A outer s H vs Q E hr h => ?_)
  · obtain ⟨x, y, a, b, c, d, rfl, _⟩ := h
    rfl
  · obtain ⟨x, y, a, b, c, d, rfl, ⟨hx, hy, hb, hd, a2, b2, c2, d2⟩, k⟩ := h
    refine ⟨_, PSs.nox (pss_cons (ps_asg (pe_call (ok_halves T) (hr.mono (by decide)) rfl T.g_halves T.F_halves.kp T.b_halves .nil pass0 (pa_cons (pv 0) pa_nil)) (pg_tup (by rfl) (pgs_cons (pg_name (i := 2) sc_difference.nd rfl (by first | exact Or.inl rfl | exact Or.inr rfl)) (pgs_cons (pg_name (i := 3) sc_difference.nd rfl (by first | exact Or.inl rfl | exact Or.inr rfl)) pgs_nil))))
  (pss_cons (ps_asg (pe_call (ok_halves T) (hr.mono (by decide)) rfl T.g_halves T.F_halves.kp T.b_halves .nil pass0 (pa_cons (pv 1) pa_nil)) (pg_tup (by rfl) (pgs_cons (pg_name (i := 4) sc_difference.nd rfl (by first | exact Or.inl rfl | exact Or.inr rfl)) (pgs_cons (pg_name (i := 5) sc_difference.nd rfl (by first | exact Or.inl rfl | exact Or.inr rfl)) pgs_nil))))
  (pss_one (ps_ret (pe_makeX T.k_Span (ok_Span_init T) (hr.mono (by decide)) rfl T.g_Span T.b_Span_init2 pass0 (pa_cons (pe_op op_sub (pe_op op_mulW (pv 2) (pv 5)) (pe_op op_mulW (pv 4) (pv 3))) (pa_cons (pe_op op_mulW (pv 3) (pv 5)) pa_nil))))))), ?_⟩
    walk_at "k"
    have s0 : Stt H [] [] H := Stt.nil
    walk_at "rd"
    refine halves_ask s0 hx fun p H1 hp k1 s1 => ?_
    walk_at "rd"
    refine halves_ask s1 (hy.kp0 k1) fun q H2 hq k2 s2 => ?_
    have m1 : CMulW a d := mulW (up a2 (by decide)) (up d2 (by decide))
    have m2 : CMulW c b := mulW (up c2 (by decide)) (up b2 (by decide))
    have m3 : CMulW b d := mulW (up b2 (by decide)) (up d2 (by decide))
    have m4 : CMulW a c := mulW (up a2 (by decide)) (up c2 (by decide))
    have z1 : b * d ≠ 0 := Int.mul_ne_zero hb hd
    have z2 : (b * d).natAbs < 2 ^ 8000 := pw b2 d2 (by decide)
    walk_at "rd"
    exact k _ _ (by assumption) (Stt.sub (H0 := H) (S := []) (by assumption) (by walk_at "subl"))
theorem ok_product (T : Txt K mg) : FnOk P w K mg base CX0 4 (He.fAd K ("_product", none)) T.fd_product ["one", "two"] (spAr K (fun a b c d => a * c) (fun a b c d => b * d)) := by
  refine T.F_product.ok sc_product (fun vs H Q E h => ?_) (fun cdv A outer s H vs Q E hr h => ?_)
  · obtain ⟨x, y, a, b, c, d, rfl, _⟩ := h
    rfl
  · obtain ⟨x, y, a, b, c, d, rfl, ⟨hx, hy, hb, hd, a2, b2, c2, d2⟩, k⟩ := h
    refine ⟨_, PSs.nox (pss_cons (ps_asg (pe_call (ok_halves T) (hr.mono (by decide)) rfl T.g_halves T.F_halves.kp T.b_halves .nil pass0 (pa_cons (pv 0) pa_nil)) (pg_tup (by rfl) (pgs_cons (pg_name (i := 2) sc_product.nd rfl (by first | exact Or.inl rfl | exact Or.inr rfl)) (pgs_cons (pg_name (i := 3) sc_product.nd rfl (by first | exact Or.inl rfl | exact Or.inr rfl)) pgs_nil))))
  (pss_cons (ps_asg (pe_call (ok_halves T) (hr.mono (by decide)) rfl T.g_halves T.F_halves.kp T.b_halves .nil pass0 (pa_cons (pv 1) pa_nil)) (pg_tup (by rfl) (pgs_cons (pg_name (i := 4) sc_product.nd rfl (by first | exact Or.inl rfl | exact Or.inr rfl)) (pgs_cons (pg_name (i := 5) sc_product.nd rfl (by first | exact Or.inl rfl | exact Or.inr rfl)) pgs_nil))))
  (pss_one (ps_ret (pe_makeX T.k_Span (ok_Span_init T) (hr.mono (by decide)) rfl T.g_Span T.b_Span_init2 pass0 (pa_cons (pe_op op_mulW (pv 2) (pv 4)) (pa_cons (pe_op op_mulW (pv 3) (pv 5)) pa_nil))))))), ?_⟩
    walk_at "k"
    have s0 : Stt H [] [] H := Stt.nil
    walk_at "rd"
    refine halves_ask s0 hx fun p H1 hp k1 s1 => ?_
    walk_at "rd"
    refine halves_ask s1 (hy.kp0 k1) fun q H2 hq k2 s2 => ?_
    have m1 : CMulW a d := mulW (up a2 (by decide)) (up d2 (by decide))
    have m2 : CMulW c b := mulW (up c2 (by decide)) (up b2 (by decide))
    have m3 : CMulW b d := mulW (up b2 (by decide)) (up d2 (by decide))
    have m4 : CMulW a c := mulW (up a2 (by decide)) (up c2 (by decide))
    have z1 : b * d ≠ 0 := Int.mul_ne_zero hb hd
    have z2 : (b * d).natAbs < 2 ^ 8000 := pw b2 d2 (by decide)
    walk_at "rd"
    exact k _ _ (by assumption) (Stt.sub (H0 := H) (S := []) (by assumption) (by walk_at "subl"))
end

end
section
local macro_rules | `(tactic| walk_at "subl") => `(tactic| first | with_reducible exact List.nil_sublist _ | with_reducible exact List.Sublist.refl _ | (with_reducible refine List.Sublist.cons₂ _ ?_; walk_at "subl") | (with_reducible refine List.Sublist.cons _ ?_; walk_at "subl"))
local macro_rules | `(tactic| walk_at "k") => `(tactic| try dsimp only [L2.cxOf, L2.Cx.nox, L2.Cx.wish, L2.Cx.blk])
local macro_rules | `(tactic| walk_at "ask") => `(tactic| fail)
local macro_rules | `(tactic| walk_at "mem") => `(tactic| first | with_reducible exact List.mem_cons_self | (with_reducible apply List.mem_cons_of_mem; walk_at "mem"))
local macro_rules | `(tactic| walk_at "put") => `(tactic| first | with_reducible exact Lt.Put.head | (with_reducible apply Lt.Put.tail; walk_at "put"))
local macro_rules | `(tactic| walk_at "own") => `(tactic| first | exact Or.inr (by assumption) | exact Or.inl (by walk_at "mem"))
local macro_rules | `(tactic| walk_at "cnd") => `(tactic| first | assumption | decide | ((try dsimp only); omega) | (unfold CMul; omega) | (unfold CDiv; omega) | (unfold CPow; omega) | exact Or.inr (by decide) | exact Or.inl (by decide) | exact wide_div (b := 128) (by omega) (by omega) (by decide) (by decide))
local macro_rules | `(tactic| walk_at "at") => `(tactic| first | exact rfl | assumption)
local macro_rules | `(tactic| walk_at "kit") => `(tactic| first | assumption | exact kit_int_int | exact kit_int_bool | exact kit_int_str | exact kit_int_list | exact kit_int_tuple | exact kit_int_dict | exact kit_bool_int | exact kit_bool_bool | exact kit_bool_str | exact kit_bool_list | exact kit_bool_tuple | exact kit_bool_dict | exact kit_str_int | exact kit_str_bool | exact kit_str_str | exact kit_str_list | exact kit_str_tuple | exact kit_str_dict | exact kit_list_int | exact kit_list_bool | exact kit_list_str | exact kit_list_list | exact kit_list_tuple | exact kit_list_dict | exact kit_tuple_int | exact kit_tuple_bool | exact kit_tuple_str | exact kit_tuple_list | exact kit_tuple_tuple | exact kit_tuple_dict | exact kit_dict_int | exact kit_dict_bool | exact kit_dict_str | exact kit_dict_list | exact kit_dict_tuple | exact kit_dict_dict | exact kit_NoneType_int | exact kit_NoneType_bool | exact kit_NoneType_str | exact kit_NoneType_list | exact kit_NoneType_tuple | exact kit_NoneType_dict)
local macro_rules | `(tactic| walk_at "kitA") => `(tactic| first | assumption | exact kitA_lt_int | exact kitA_lt_bool | exact kitA_lt_str | exact kitA_lt_list | exact kitA_lt_tuple | exact kitA_lt_dict | exact kitA_lt_NoneType | exact kitA_bilt_int | exact kitA_bilt_bool | exact kitA_bilt_str | exact kitA_bilt_list | exact kitA_bilt_tuple | exact kitA_bilt_dict | exact kitA_bilt_NoneType)
local macro_rules | `(tactic| walk_at "ty") => `(tactic| first | exact .base (.int _) | exact .base (.bl _) | exact .base (.str _) | exact .base .non | exact .base (.lst (Stt.get (by assumption) (by walk_at "mem"))) | exact .base (.tup (Stt.get (by assumption) (by walk_at "mem"))) | exact .base (.dK (Stt.get (by assumption) (by walk_at "mem"))) | exact sqL_ty (Stt.upL (by assumption) (by assumption)) | exact sqT_ty (Stt.upT (by assumption) (by assumption)) | exact InsT.ty (by assumption) (Stt.get (by assumption) (by walk_at "mem")) | assumption)
local macro_rules | `(tactic| walk_at "rd1") => `(tactic| first
  | with_reducible refine' Rd.seq ?_
  | with_reducible refine' Rd.asg ?_
  | ((with_reducible refine' Rd.var ?vh ?_); (case vh => exact rfl))
  | with_reducible refine' Rd.con ?_
  | with_reducible refine' Rd.op ?_
  | with_reducible refine' Rd.i0 ?_
  | ((with_reducible refine' Rd.ic ?vh ?_); (case vh => walk_at "cnd"))
  | ((with_reducible refine' Rd.ixL ?v1 ?v2 ?v3 ?_); (case v1 => assumption); (case v2 => walk_at "mem"); (case v3 => walk_at "at"))
  | ((with_reducible refine' Rd.ixT ?v1 ?v2 ?v3 ?_); (case v1 => assumption); (case v2 => walk_at "mem"); (case v3 => walk_at "at"))
  | ((with_reducible refine' Rd.ixD2 ?v1 ?v2 ?_); (case v1 => assumption); (case v2 => walk_at "mem"); intro _)
  | ((with_reducible refine' Rd.ixD3 ?v1 ?v2 ?_); (case v1 => assumption); (case v2 => walk_at "mem"); intro _)
  | ((with_reducible refine' Rd.setD2 ?v1 ?v2 ?v3 ?v4 ?_); (case v1 => assumption); (case v2 => walk_at "mem"); (case v3 => walk_at "put"); (case v4 => walk_at "own"); intro _ _)
  | ((with_reducible refine' Rd.isi ?v1 ?v2 ?v3 ?_); (case v1 => walk_at "ty"); (case v2 => first | exact ClsV.ty _ | exact ClsV.own _); (case v3 => walk_at "kit"))
  | with_reducible refine' Rd.fld ?_
  | ((with_reducible refine' Rd.fldI ?v1 ?v2 ?v3 ?v4 ?v5 ?_); (case v1 => assumption); (case v2 => walk_at "mem"); (case v3 => assumption); (case v4 => assumption); (case v5 => walk_at "at"))
  | with_reducible refine' Rd.sfld ?_
  | ((with_reducible refine' Rd.sfldI ?v1 ?v2 ?v3 ?v4 ?v5 ?v6 ?v7 ?_); (case v1 => assumption); (case v2 => walk_at "mem"); (case v3 => assumption); (case v4 => assumption); (case v5 => first | decide | (refine Nat.lt_of_le_of_lt (putF_len _ _ _) ?_; decide)); (case v6 => walk_at "put"); (case v7 => walk_at "own"); intro _ _)
  | with_reducible refine' Rd.make ?_
  | with_reducible refine' Rd.gcd ?_
  | with_reducible refine' Rd.cons ?_
  | with_reducible refine' Rd.nil ?_
  | with_reducible refine' Rd.cb ?_
  | with_reducible refine' Rd.intI ?_
  | with_reducible refine' Rd.absI ?_
  | ((with_reducible refine' Rd.lenL ?v1 ?v2 ?_); (case v1 => assumption); (case v2 => walk_at "mem"))
  | ((with_reducible refine' Rd.lenT ?v1 ?v2 ?_); (case v1 => assumption); (case v2 => walk_at "mem"))
  | ((with_reducible refine' Rd.lenBL ?v1 ?v2 ?v3 ?_); (case v1 => assumption); (case v2 => assumption); (case v3 => first | exact List.not_mem_nil | assumption))
  | ((with_reducible refine' Rd.lenBT ?v1 ?v2 ?v3 ?_); (case v1 => assumption); (case v2 => assumption); (case v3 => first | exact List.not_mem_nil | assumption))
  | ((with_reducible refine' Rd.ixBL ?v1 ?v2 ?v4 ?v3 ?_); (case v1 => assumption); (case v2 => assumption); (case v4 => first | exact List.not_mem_nil | assumption); (case v3 => walk_at "at"))
  | ((with_reducible refine' Rd.ixBT ?v1 ?v2 ?v4 ?v3 ?_); (case v1 => assumption); (case v2 => assumption); (case v4 => first | exact List.not_mem_nil | assumption); (case v3 => walk_at "at"))
  | ((with_reducible refine' Rd.brI ?vh ?_); (case vh => with_reducible exact rfl))
  | with_reducible refine' Rd.ifS ?_
  | with_reducible refine' Rd.test ?_
  | with_reducible refine' Rd.tbl ?_
  | with_reducible refine' Rd.bl ?_
  | with_reducible refine' Rd.brTT ?_
  | with_reducible refine' Rd.brFF ?_
  | with_reducible refine' Rd.brN ?_
  | ((with_reducible refine' Rd.aug ?vh ?_); (case vh => exact rfl))
  | with_reducible refine' Rd.ipI ?_
  | with_reducible refine' Rd.blV ?_
  | with_reducible refine' Rd.notVL ?_
  | with_reducible refine' Rd.andT ?_
  | with_reducible refine' Rd.orT ?_
  | with_reducible refine' Rd.notT ?_
  | with_reducible refine' Rd.andV ?_
  | with_reducible refine' Rd.orV ?_
  | with_reducible refine' Rd.notV ?_
  | with_reducible refine' Rd.ifE ?_
  | ((with_reducible refine' Rd.eqS ?vh ?_); (case vh => exact rfl))
  | ((with_reducible refine' Rd.neS ?vh ?_); (case vh => exact rfl))
  | with_reducible refine' Rd.par ?_
  | with_reducible refine' Rd.parL ?_
  | with_reducible refine' Rd.un ?_
  | with_reducible refine' Rd.u1 ?_
  | with_reducible refine' Rd.sub ?_
  | ((with_reducible refine' Rd.setL ?v1 ?v2 ?v3 ?v4 ?v5 ?_); (case v1 => assumption); (case v2 => walk_at "mem"); (case v3 => walk_at "at"); (case v4 => walk_at "put"); (case v5 => walk_at "own"); intro _ _)
  | with_reducible refine' Rd.tup ?_
  | with_reducible refine' Rd.lst ?_
  | ((with_reducible refine' Rd.tupN ?v1 ?v2 ?_); (case v1 => assumption); (case v2 => simp only [List.length_cons, List.length_nil]; decide); intro _ _ _ _)
  | ((with_reducible refine' Rd.lstN ?v1 ?v2 ?_); (case v1 => assumption); (case v2 => simp only [List.length_cons, List.length_nil]; decide); intro _ _ _ _)
  | with_reducible refine' Rd.ret ?_
  | with_reducible refine' Rd.drop ?_
  | with_reducible refine' Rd.retN ?_
  | with_reducible refine' Rd.next ?_
  | with_reducible refine' Rd.brk ?_
  | with_reducible refine' Rd.cont ?_
  | with_reducible refine' Rd.call ?_
  | walk_at "ask"
  | with_reducible refine' Rd.bm ?_
  | ((with_reducible refine' Rd.bmL ?v1 ?v2 ?_); (case v1 => assumption); (case v2 => walk_at "mem"))
  | ((with_reducible refine' Rd.app ?v1 ?v2 ?v3 ?v4 ?v5 ?_); (case v1 => assumption); (case v2 => walk_at "mem"); (case v3 => simp only [List.length_cons, List.length_nil, List.length_append]; omega); (case v4 => walk_at "put"); (case v5 => walk_at "own"); intro _ _)
  | with_reducible refine' Rd.asgT ?_
  | ((with_reducible refine' Rd.gtup ?v1 ?v2 ?v3 ?_); (case v1 => assumption); (case v2 => walk_at "mem"); (case v3 => exact rfl))
  | with_reducible refine' Rd.gcons ?_
  | with_reducible refine' Rd.gname ?_
  | with_reducible refine' Rd.gnil ?_
  | with_reducible refine' Rd.sl ?_
  | with_reducible refine' Rd.noPart ?_
  | with_reducible refine' Rd.part ?_
  | with_reducible refine' Rd.prt ?_
  | with_reducible refine' Rd.isB ?_
  | ((with_reducible refine' Rd.wp ?vh ?_); (case vh => exact rfl))
  | with_reducible refine' Rd.makeK ?_
  | with_reducible refine' Rd.meth ?_
  | ((with_reducible refine' Rd.catL ?v1 ?v2 ?v3 ?v4 ?_); (case v1 => assumption); (case v2 => walk_at "mem"); (case v3 => walk_at "mem"); (case v4 => simp only [List.length_cons, List.length_nil, List.length_append]; omega); intro _ _ _ _)
  | with_reducible refine' Rd.dnew ?_
  | ((with_reducible refine' Rd.dnewL ?v1 ?_); (case v1 => assumption); intro _ _ _ _)
  | with_reducible refine' Rd.lc ?_
  | with_reducible refine' Rd.wZ ?_
  | with_reducible refine' Rd.tYesH ?_
  | with_reducible refine' Rd.fmt ?_
  | with_reducible refine' Rd.joined ?_
  | with_reducible refine' Rd.jsNil ?_
  | with_reducible refine' Rd.jsCons ?_
  | ((with_reducible refine' Rd.isiT ?v1 ?v2 ?v3 ?v4 ?v5 ?_); (case v1 => assumption); (case v2 => walk_at "mem"); (case v3 => walk_at "ty"); (case v4 => first | exact .cons (.ty _) (.cons (.ty _) .nil) | exact .cons (.ty _) (.cons (.ty _) (.cons (.ty _) (.cons (.ty _) .nil))) | exact .cons (.ty _) (.cons (.ty _) (.cons (.ty _) .nil))); (case v5 => walk_at "kitA"))
  | with_reducible refine' Rd.forS ?_
  | with_reducible refine' Rd.wEnT ?_
  | ((with_reducible refine' Rd.wEnTL ?v1 ?v2 ?_); (case v1 => assumption); (case v2 => walk_at "mem"))
  | with_reducible refine' Rd.wL ?_
  | ((with_reducible refine' Rd.wLL ?v1 ?v2 ?_); (case v1 => assumption); (case v2 => walk_at "mem"))
  | with_reducible refine' Rd.wT ?_
  | ((with_reducible refine' Rd.wTL ?v1 ?v2 ?_); (case v1 => assumption); (case v2 => walk_at "mem"))
  | with_reducible refine' Rd.wR1 ?_
  | ((with_reducible refine' Rd.wR1L ?v1 ?v2 ?_); (case v1 => omega); (case v2 => omega))
  | with_reducible refine' Rd.wR2 ?_
  | ((with_reducible refine' Rd.wR2L ?v1 ?_); (case v1 => omega)))
local macro_rules | `(tactic| walk_at "rd") => `(tactic| repeat (walk_at "rd1"))

local macro_rules | `(tactic| walk_at "ask") => `(tactic| ((with_reducible refine' fill_ask ?v1 ?v2 ?v3 ?v4 ?v5 ?_); (case v1 => assumption); (case v2 => walk_at "mem"); (case v3 => walk_at "mem"); (case v4 => assumption); (case v5 => walk_at "own"); intro _ _))

local macro_rules | `(tactic| walk_at "ask") => `(tactic| ((with_reducible refine' take_ask ?v1 ?v2 ?v3 ?v4 ?v5 ?v6 ?_); (case v1 => assumption); (case v2 => walk_at "mem"); (case v3 => walk_at "mem"); (case v4 => assumption); (case v5 => walk_at "own"); (case v6 => first | decide | omega); intro _ _ _ _))
local macro_rules | `(tactic| walk_at "ask") => `(tactic| ((with_reducible refine' one_ask ?v1 ?v2 ?v3 ?v4 ?v5 ?_); (case v1 => assumption); (case v2 => walk_at "subl"); (case v3 => assumption); (case v4 => walk_at "own"); (case v5 => simp only [List.length_append, List.length_cons, List.length_nil]; decide); intro _ _ _ _))
local macro_rules | `(tactic| walk_at "ask") => `(tactic| ((with_reducible refine' fig_ask ?v1 ?v2 ?v3 ?v4 ?_); (case v1 => assumption); (case v2 => walk_at "subl"); (case v3 => assumption); (case v4 => walk_at "own"); intro _ _ _ _))
local macro_rules | `(tactic| walk_at "ask") => `(tactic| ((with_reducible refine' low_ask ?v1 ?v2 ?v3 ?v4 ?_); (case v1 => assumption); (case v2 => first | assumption | omega); (case v3 => omega); (case v4 => omega); intro _ _ _ _))
local macro_rules | `(tactic| walk_at "ask") => `(tactic| ((with_reducible refine' frac_ask ?v1 ?v2 ?v3 ?v4 ?_); (case v1 => assumption); (case v2 => walk_at "subl"); (case v3 => assumption); (case v4 => walk_at "own"); intro _ _ _ _ _ _ _))

local macro_rules | `(tactic| walk_at "ask") => `(tactic| with_reducible refine' isI_int ?_)
local macro_rules | `(tactic| walk_at "ask") => `(tactic| ((with_reducible refine' mk_span ?v1 ?v2 ?v3 ?_); (case v1 => assumption); (case v2 => first | assumption | omega); (case v3 => first | assumption | omega); intro _ _ _ _))
local macro_rules | `(tactic| walk_at "ask") => `(tactic| ((with_reducible refine' mk_span1 ?v1 ?_); (case v1 => assumption); intro _ _ _ _))
local macro_rules | `(tactic| walk_at "ask") => `(tactic| ((with_reducible refine' fld_over ?v1 ?v2 ?v3 ?v4 ?_); (case v1 => assumption); (case v2 => assumption); (case v3 => assumption); (case v4 => walk_at "mem")))
local macro_rules | `(tactic| walk_at "ask") => `(tactic| ((with_reducible refine' fld_under ?v1 ?v2 ?v3 ?v4 ?_); (case v1 => assumption); (case v2 => assumption); (case v3 => assumption); (case v4 => walk_at "mem")))
local macro_rules | `(tactic| walk_at "ty") => `(tactic| exact span_ty (by assumption) (by assumption) (by walk_at "mem"))

section
variable {P : Program} {w : World} {K : PySem.W.Frag} {mg : Str → Option Value} {base : Heap}
theorem fdiv_le (n m : Int) (h : m ≠ 0) : (n.fdiv m).natAbs ≤ n.natAbs := by
  exact Int.natAbs_fdiv_le_natAbs n m
def spQuo (K : PySem.W.Frag) : Sp := fun vs H Q _ => ∃ (x y : V) (a b c d : Int), vs = [x, y] ∧ Ar K H x y a b c d ∧ c ≠ 0 ∧ ∀ H', Kp [] H H' → Q (.int ((a * d).fdiv (b * c))) H'
theorem ok_quotient (T : Txt K mg) : FnOk P w K mg base CX0 3 (He.fAd K ("_quotient", none)) T.fd_quotient ["one", "two"] (spQuo K) := by
  refine T.F_quotient.ok sc_quotient (fun vs H Q E h => ?_) (fun cdv A outer s H vs Q E hr h => ?_)
  · obtain ⟨x, y, a, b, c, d, rfl, _⟩ := h
    rfl
  · obtain ⟨x, y, a, b, c, d, rfl, ⟨hx, hy, hb, hd, a2, b2, c2, d2⟩, hc, k⟩ := h
    refine ⟨_, PSs.nox (pss_cons (ps_asg (pe_call (ok_halves T) (hr.mono (by decide)) rfl T.g_halves T.F_halves.kp T.b_halves .nil pass0 (pa_cons (pv 0) pa_nil)) (pg_tup (by rfl) (pgs_cons (pg_name (i := 2) sc_quotient.nd rfl (by first | exact Or.inl rfl | exact Or.inr rfl)) (pgs_cons (pg_name (i := 3) sc_quotient.nd rfl (by first | exact Or.inl rfl | exact Or.inr rfl)) pgs_nil))))
  (pss_cons (ps_asg (pe_call (ok_halves T) (hr.mono (by decide)) rfl T.g_halves T.F_halves.kp T.b_halves .nil pass0 (pa_cons (pv 1) pa_nil)) (pg_tup (by rfl) (pgs_cons (pg_name (i := 4) sc_quotient.nd rfl (by first | exact Or.inl rfl | exact Or.inr rfl)) (pgs_cons (pg_name (i := 5) sc_quotient.nd rfl (by first | exact Or.inl rfl | exact Or.inr rfl)) pgs_nil))))
  (pss_cons (ps_if (pt_cmpR op_eq (pv 4) pe_int (nomark _)) (pss_one ps_never)
   pss_nil)
  (pss_one (ps_ret (pe_op op_fdivZ (pe_op op_mulW (pv 2) (pv 5)) (pe_op op_mulW (pv 3) (pv 4)))))))), ?_⟩
    walk_at "k"
    have s0 : Stt H [] [] H := Stt.nil
    walk_at "rd"
    refine halves_ask s0 hx fun p H1 hp k1 s1 => ?_
    walk_at "rd"
    refine halves_ask s1 (hy.kp0 k1) fun q H2 hq k2 s2 => ?_
    have m1 : CMulW a d := mulW (up a2 (by decide)) (up d2 (by decide))
    have m2 : CMulW b c := mulW (up b2 (by decide)) (up c2 (by decide))
    have m3 : CDivZ (a * d) (b * c) := wide_divZ (b := 8000) (Int.mul_ne_zero hb hc) (pw b2 c2 (by decide)) (by decide) (by decide)
    walk_at "rd"
    refine Rd.brJ (fun e => hc (V.int.inj e)) ?_
    walk_at "rd"
    exact k _ s2.keep
theorem quo_ask {H0 H : Hp} {S : List Addr} {l : Led} {x y : V} {a b c d : Int} {Q : VK} {E : XK} (s : Stt H0 S l H) (h : Ar K H x y a b c d) (hc : c ≠ 0) (k : ∀ H', Kp [] H H' → Stt H0 S l H' → Q (.int ((a * d).fdiv (b * c))) H') : spQuo K ([x, y] ++ []) H Q E :=
  ⟨x, y, a, b, c, d, rfl, h, hc, fun H' kp => k H' kp (s.after0 kp)⟩
def spRem (K : PySem.W.Frag) : Sp := fun vs H Q _ => ∃ (x y : V) (a b c d : Int), vs = [x, y] ∧ Ar K H x y a b c d ∧ c ≠ 0 ∧
  ∀ p H', H p = none → Stt H [] [(p, SpanO K (nO (a * d - (a * d).fdiv (b * c) * c * b) (b * d)) (nU (a * d - (a * d).fdiv (b * c) * c * b) (b * d)))] H' → Q (.ref p) H'
theorem ok_remainder (T : Txt K mg) : FnOk P w K mg base CX0 4 (He.fAd K ("_remainder", none)) T.fd_remainder ["one", "two"] (spRem K) := by
  refine T.F_remainder.ok sc_remainder (fun vs H Q E h => ?_) (fun cdv A outer s H vs Q E hr h => ?_)
  · obtain ⟨x, y, a, b, c, d, rfl, _⟩ := h
    rfl
  · obtain ⟨x, y, a, b, c, d, rfl, ⟨hx, hy, hb, hd, a2, b2, c2, d2⟩, hc, k⟩ := h
    refine ⟨_, PSs.nox (pss_cons (ps_asg (pe_call (ok_quotient T) (hr.mono (by decide)) rfl T.g_quotient T.F_quotient.kp T.b_quotient .nil pass0 (pa_cons (pv 0) (pa_cons (pv 1) pa_nil))) (pg_name (i := 2) sc_remainder.nd rfl (by first | exact Or.inl rfl | exact Or.inr rfl)))
  (pss_cons (ps_asg (pe_call (ok_halves T) (hr.mono (by decide)) rfl T.g_halves T.F_halves.kp T.b_halves .nil pass0 (pa_cons (pv 0) pa_nil)) (pg_tup (by rfl) (pgs_cons (pg_name (i := 3) sc_remainder.nd rfl (by first | exact Or.inl rfl | exact Or.inr rfl)) (pgs_cons (pg_name (i := 4) sc_remainder.nd rfl (by first | exact Or.inl rfl | exact Or.inr rfl)) pgs_nil))))
  (pss_cons (ps_asg (pe_call (ok_halves T) (hr.mono (by decide)) rfl T.g_halves T.F_halves.kp T.b_halves .nil pass0 (pa_cons (pv 1) pa_nil)) (pg_tup (by rfl) (pgs_cons (pg_name (i := 5) sc_remainder.nd rfl (by first | exact Or.inl rfl | exact Or.inr rfl)) (pgs_cons (pg_name (i := 6) sc_remainder.nd rfl (by first | exact Or.inl rfl | exact Or.inr rfl)) pgs_nil))))
  (pss_one (ps_ret (pe_makeX T.k_Span (ok_Span_init T) (hr.mono (by decide)) rfl T.g_Span T.b_Span_init2 pass0 (pa_cons (pe_op op_sub (pe_op op_mulW (pv 3) (pv 6)) (pe_op op_mulW (pe_op op_mulW (pv 2) (pv 5)) (pv 4))) (pa_cons (pe_op op_mulW (pv 4) (pv 6)) pa_nil)))))))), ?_⟩
    walk_at "k"
    have s0 : Stt H [] [] H := Stt.nil
    walk_at "rd"
    refine quo_ask s0 ⟨hx, hy, hb, hd, a2, b2, c2, d2⟩ hc fun H0 k0 s0' => ?_
    walk_at "rd"
    refine halves_ask s0' (hx.kp0 k0) fun p H1 hp k1 s1 => ?_
    walk_at "rd"
    refine halves_ask s1 ((hy.kp0 k0).kp0 k1) fun q H2 hq k2 s2 => ?_
    have q1 : (a * d).natAbs < 2 ^ 400 := pw a2 d2 (by decide)
    have q2 : ((a * d).fdiv (b * c)).natAbs < 2 ^ 400 := Nat.lt_of_le_of_lt (fdiv_le _ _ (Int.mul_ne_zero hb hc)) q1
    have m1 : CMulW a d := mulW (up a2 (by decide)) (up d2 (by decide))
    have m2 : CMulW ((a * d).fdiv (b * c)) c := mulW (up q2 (by decide)) (up c2 (by decide))
    have m4 : CMulW ((a * d).fdiv (b * c) * c) b := mulW (pw (k := 3000) q2 c2 (by decide)) (up b2 (by decide))
    have m3 : CMulW b d := mulW (up b2 (by decide)) (up d2 (by decide))
    have z1 : b * d ≠ 0 := Int.mul_ne_zero hb hd
    have z2 : (b * d).natAbs < 2 ^ 8000 := pw b2 d2 (by decide)
    walk_at "rd"
    exact k _ _ (by assumption) (Stt.sub (H0 := H) (S := []) (by assumption) (by walk_at "subl"))
end

end
section
local macro_rules | `(tactic| walk_at "subl") => `(tactic| first | with_reducible exact List.nil_sublist _ | with_reducible exact List.Sublist.refl _ | (with_reducible refine List.Sublist.cons₂ _ ?_; walk_at "subl") | (with_reducible refine List.Sublist.cons _ ?_; walk_at "subl"))
local macro_rules | `(tactic| walk_at "k") => `(tactic| try dsimp only [L2.cxOf, L2.Cx.nox, L2.Cx.wish, L2.Cx.blk])
local macro_rules | `(tactic| walk_at "ask") => `(tactic| fail)
local macro_rules | `(tactic| walk_at "mem") => `(tactic| first | with_reducible exact List.mem_cons_self | (with_reducible apply List.mem_cons_of_mem; walk_at "mem"))
local macro_rules | `(tactic| walk_at "put") => `(tactic| first | with_reducible exact Lt.Put.head | (with_reducible apply Lt.Put.tail; walk_at "put"))
local macro_rules | `(tactic| walk_at "own") => `(tactic| first | exact Or.inr (by assumption) | exact Or.inl (by walk_at "mem"))
local macro_rules | `(tactic| walk_at "cnd") => `(tactic| first | assumption | decide | ((try dsimp only); omega) | (unfold CMul; omega) | (unfold CDiv; omega) | (unfold CPow; omega) | exact Or.inr (by decide) | exact Or.inl (by decide) | exact wide_div (b := 128) (by omega) (by omega) (by decide) (by decide))
local macro_rules | `(tactic| walk_at "at") => `(tactic| first | exact rfl | assumption)
local macro_rules | `(tactic| walk_at "kit") => `(tactic| first | assumption | exact kit_int_int | exact kit_int_bool | exact kit_int_str | exact kit_int_list | exact kit_int_tuple | exact kit_int_dict | exact kit_bool_int | exact kit_bool_bool | exact kit_bool_str | exact kit_bool_list | exact kit_bool_tuple | exact kit_bool_dict | exact kit_str_int | exact kit_str_bool | exact kit_str_str | exact kit_str_list | exact kit_str_tuple | exact kit_str_dict | exact kit_list_int | exact kit_list_bool | exact kit_list_str | exact kit_list_list | exact kit_list_tuple | exact kit_list_dict | exact kit_tuple_int | exact kit_tuple_bool | exact kit_tuple_str | exact kit_tuple_list | exact kit_tuple_tuple | exact kit_tuple_dict | exact kit_dict_int | exact kit_dict_bool | exact kit_dict_str | exact kit_dict_list | exact kit_dict_tuple | exact kit_dict_dict | exact kit_NoneType_int | exact kit_NoneType_bool | exact kit_NoneType_str | exact kit_NoneType_list | exact kit_NoneType_tuple | exact kit_NoneType_dict)
local macro_rules | `(tactic| walk_at "kitA") => `(tactic| first | assumption | exact kitA_lt_int | exact kitA_lt_bool | exact kitA_lt_str | exact kitA_lt_list | exact kitA_lt_tuple | exact kitA_lt_dict | exact kitA_lt_NoneType | exact kitA_bilt_int | exact kitA_bilt_bool | exact kitA_bilt_str | exact kitA_bilt_list | exact kitA_bilt_tuple | exact kitA_bilt_dict | exact kitA_bilt_NoneType)
local macro_rules | `(tactic| walk_at "ty") => `(tactic| first | exact .base (.int _) | exact .base (.bl _) | exact .base (.str _) | exact .base .non | exact .base (.lst (Stt.get (by assumption) (by walk_at "mem"))) | exact .base (.tup (Stt.get (by assumption) (by walk_at "mem"))) | exact .base (.dK (Stt.get (by assumption) (by walk_at "mem"))) | exact sqL_ty (Stt.upL (by assumption) (by assumption)) | exact sqT_ty (Stt.upT (by assumption) (by assumption)) | exact InsT.ty (by assumption) (Stt.get (by assumption) (by walk_at "mem")) | assumption)
local macro_rules | `(tactic| walk_at "rd1") => `(tactic| first
  | with_reducible refine' Rd.seq ?_
  | with_reducible refine' Rd.asg ?_
  | ((with_reducible refine' Rd.var ?vh ?_); (case vh => exact rfl))
  | with_reducible refine' Rd.con ?_
  | with_reducible refine' Rd.op ?_
  | with_reducible refine' Rd.i0 ?_
  | ((with_reducible refine' Rd.ic ?vh ?_); (case vh => walk_at "cnd"))
  | ((with_reducible refine' Rd.ixL ?v1 ?v2 ?v3 ?_); (case v1 => assumption); (case v2 => walk_at "mem"); (case v3 => walk_at "at"))
  | ((with_reducible refine' Rd.ixT ?v1 ?v2 ?v3 ?_); (case v1 => assumption); (case v2 => walk_at "mem"); (case v3 => walk_at "at"))
  | ((with_reducible refine' Rd.ixD2 ?v1 ?v2 ?_); (case v1 => assumption); (case v2 => walk_at "mem"); intro _)
  | ((with_reducible refine' Rd.ixD3 ?v1 ?v2 ?_); (case v1 => assumption); (case v2 => walk_at "mem"); intro _)
  | ((with_reducible refine' Rd.setD2 ?v1 ?v2 ?v3 ?v4 ?_); (case v1 => assumption); (case v2 => walk_at "mem"); (case v3 => walk_at "put"); (case v4 => walk_at "own"); intro _ _)
  | ((with_reducible refine' Rd.isi ?v1 ?v2 ?v3 ?_); (case v1 => walk_at "ty"); (case v2 => first | exact ClsV.ty _ | exact ClsV.own _); (case v3 => walk_at "kit"))
  | with_reducible refine' Rd.fld ?_
  | ((with_reducible refine' Rd.fldI ?v1 ?v2 ?v3 ?v4 ?v5 ?_); (case v1 => assumption); (case v2 => walk_at "mem"); (case v3 => assumption); (case v4 => assumption); (case v5 => walk_at "at"))
  | with_reducible refine' Rd.sfld ?_
  | ((with_reducible refine' Rd.sfldI ?v1 ?v2 ?v3 ?v4 ?v5 ?v6 ?v7 ?_); (case v1 => assumption); (case v2 => walk_at "mem"); (case v3 => assumption); (case v4 => assumption); (case v5 => first | decide | (refine Nat.lt_of_le_of_lt (putF_len _ _ _) ?_; decide)); (case v6 => walk_at "put"); (case v7 => walk_at "own"); intro _ _)
  | with_reducible refine' Rd.make ?_
  | with_reducible refine' Rd.gcd ?_
  | with_reducible refine' Rd.cons ?_
  | with_reducible refine' Rd.nil ?_
  | with_reducible refine' Rd.cb ?_
  | with_reducible refine' Rd.intI ?_
  | with_reducible refine' Rd.absI ?_
  | ((with_reducible refine' Rd.lenL ?v1 ?v2 ?_); (case v1 => assumption); (case v2 => walk_at "mem"))
  | ((with_reducible refine' Rd.lenT ?v1 ?v2 ?_); (case v1 => assumption); (case v2 => walk_at "mem"))
  | ((with_reducible refine' Rd.lenBL ?v1 ?v2 ?v3 ?_); (case v1 => assumption); (case v2 => assumption); (case v3 => first | exact List.not_mem_nil | assumption))
  | ((with_reducible refine' Rd.lenBT ?v1 ?v2 ?v3 ?_); (case v1 => assumption); (case v2 => assumption); (case v3 => first | exact List.not_mem_nil | assumption))
  | ((with_reducible refine' Rd.ixBL ?v1 ?v2 ?v4 ?v3 ?_); (case v1 => assumption); (case v2 => assumption); (case v4 => first | exact List.not_mem_nil | assumption); (case v3 => walk_at "at"))
  | ((with_reducible refine' Rd.ixBT ?v1 ?v2 ?v4 ?v3 ?_); (case v1 => assumption); (case v2 => assumption); (case v4 => first | exact List.not_mem_nil | assumption); (case v3 => walk_at "at"))
  | ((with_reducible refine' Rd.brI ?vh ?_); (case vh => with_reducible exact rfl))
  | with_reducible refine' Rd.ifS ?_
  | with_reducible refine' Rd.test ?_
  | with_reducible refine' Rd.tbl ?_
  | with_reducible refine' Rd.bl ?_
  | with_reducible refine' Rd.brTT ?_
  | with_reducible refine' Rd.brFF ?_
  | with_reducible refine' Rd.brN ?_
  | ((with_reducible refine' Rd.aug ?vh ?_); (case vh => exact rfl))
  | with_reducible refine' Rd.ipI ?_
  | with_reducible refine' Rd.blV ?_
  | with_reducible refine' Rd.notVL ?_
  | with_reducible refine' Rd.andT ?_
  | with_reducible refine' Rd.orT ?_
  | with_reducible refine' Rd.notT ?_
  | with_reducible refine' Rd.andV ?_
  | with_reducible refine' Rd.orV ?_
  | with_reducible refine' Rd.notV ?_
  | with_reducible refine' Rd.ifE ?_
  | ((with_reducible refine' Rd.eqS ?vh ?_); (case vh => exact rfl))
  | ((with_reducible refine' Rd.neS ?vh ?_); (case vh => exact rfl))
  | with_reducible refine' Rd.par ?_
  | with_reducible refine' Rd.parL ?_
  | with_reducible refine' Rd.un ?_
  | with_reducible refine' Rd.u1 ?_
  | with_reducible refine' Rd.sub ?_
  | ((with_reducible refine' Rd.setL ?v1 ?v2 ?v3 ?v4 ?v5 ?_); (case v1 => assumption); (case v2 => walk_at "mem"); (case v3 => walk_at "at"); (case v4 => walk_at "put"); (case v5 => walk_at "own"); intro _ _)
  | with_reducible refine' Rd.tup ?_
  | with_reducible refine' Rd.lst ?_
  | ((with_reducible refine' Rd.tupN ?v1 ?v2 ?_); (case v1 => assumption); (case v2 => simp only [List.length_cons, List.length_nil]; decide); intro _ _ _ _)
  | ((with_reducible refine' Rd.lstN ?v1 ?v2 ?_); (case v1 => assumption); (case v2 => simp only [List.length_cons, List.length_nil]; decide); intro _ _ _ _)
  | with_reducible refine' Rd.ret ?_
  | with_reducible refine' Rd.drop ?_
  | with_reducible refine' Rd.retN ?_
  | with_reducible refine' Rd.next ?_
  | with_reducible refine' Rd.brk ?_
  | with_reducible refine' Rd.cont ?_
  | with_reducible refine' Rd.call ?_
  | walk_at "ask"
  | with_reducible refine' Rd.bm ?_
  | ((with_reducible refine' Rd.bmL ?v1 ?v2 ?_); (case v1 => assumption); (case v2 => walk_at "mem"))
  | ((with_reducible refine' Rd.app ?v1 ?v2 ?v3 ?v4 ?v5 ?_); (case v1 => assumption); (case v2 => walk_at "mem"); (case v3 => simp only [List.length_cons, List.length_nil, List.length_append]; omega); (case v4 => walk_at "put"); (case v5 => walk_at "own"); intro _ _)
  | with_reducible refine' Rd.asgT ?_
  | ((with_reducible refine' Rd.gtup ?v1 ?v2 ?v3 ?_); (case v1 => assumption); (case v2 => walk_at "mem"); (case v3 => exact rfl))
  | with_reducible refine' Rd.gcons ?_
  | with_reducible refine' Rd.gname ?_
  | with_reducible refine' Rd.gnil ?_
  | with_reducible refine' Rd.sl ?_
  | with_reducible refine' Rd.noPart ?_
  | with_reducible refine' Rd.part ?_
  | with_reducible refine' Rd.prt ?_
  | with_reducible refine' Rd.isB ?_
  | ((with_reducible refine' Rd.wp ?vh ?_); (case vh => exact rfl))
  | with_reducible refine' Rd.makeK ?_
  | with_reducible refine' Rd.meth ?_
  | ((with_reducible refine' Rd.catL ?v1 ?v2 ?v3 ?v4 ?_); (case v1 => assumption); (case v2 => walk_at "mem"); (case v3 => walk_at "mem"); (case v4 => simp only [List.length_cons, List.length_nil, List.length_append]; omega); intro _ _ _ _)
  | with_reducible refine' Rd.dnew ?_
  | ((with_reducible refine' Rd.dnewL ?v1 ?_); (case v1 => assumption); intro _ _ _ _)
  | with_reducible refine' Rd.lc ?_
  | with_reducible refine' Rd.wZ ?_
  | with_reducible refine' Rd.tYesH ?_
  | with_reducible refine' Rd.fmt ?_
  | with_reducible refine' Rd.joined ?_
  | with_reducible refine' Rd.jsNil ?_
  | with_reducible refine' Rd.jsCons ?_
  | ((with_reducible refine' Rd.isiT ?v1 ?v2 ?v3 ?v4 ?v5 ?_); (case v1 => assumption); (case v2 => walk_at "mem"); (case v3 => walk_at "ty"); (case v4 => first | exact .cons (.ty _) (.cons (.ty _) .nil) | exact .cons (.ty _) (.cons (.ty _) (.cons (.ty _) (.cons (.ty _) .nil))) | exact .cons (.ty _) (.cons (.ty _) (.cons (.ty _) .nil))); (case v5 => walk_at "kitA"))
  | with_reducible refine' Rd.forS ?_
  | with_reducible refine' Rd.wEnT ?_
  | ((with_reducible refine' Rd.wEnTL ?v1 ?v2 ?_); (case v1 => assumption); (case v2 => walk_at "mem"))
  | with_reducible refine' Rd.wL ?_
  | ((with_reducible refine' Rd.wLL ?v1 ?v2 ?_); (case v1 => assumption); (case v2 => walk_at "mem"))
  | with_reducible refine' Rd.wT ?_
  | ((with_reducible refine' Rd.wTL ?v1 ?v2 ?_); (case v1 => assumption); (case v2 => walk_at "mem"))
  | with_reducible refine' Rd.wR1 ?_
  | ((with_reducible refine' Rd.wR1L ?v1 ?v2 ?_); (case v1 => omega); (case v2 => omega))
  | with_reducible refine' Rd.wR2 ?_
  | ((with_reducible refine' Rd.wR2L ?v1 ?_); (case v1 => omega)))
local macro_rules | `(tactic| walk_at "rd") => `(tactic| repeat (walk_at "rd1"))

local macro_rules | `(tactic| walk_at "ask") => `(tactic| ((with_reducible refine' fill_ask ?v1 ?v2 ?v3 ?v4 ?v5 ?_); (case v1 => assumption); (case v2 => walk_at "mem"); (case v3 => walk_at "mem"); (case v4 => assumption); (case v5 => walk_at "own"); intro _ _))

local macro_rules | `(tactic| walk_at "ask") => `(tactic| ((with_reducible refine' take_ask ?v1 ?v2 ?v3 ?v4 ?v5 ?v6 ?_); (case v1 => assumption); (case v2 => walk_at "mem"); (case v3 => walk_at "mem"); (case v4 => assumption); (case v5 => walk_at "own"); (case v6 => first | decide | omega); intro _ _ _ _))
local macro_rules | `(tactic| walk_at "ask") => `(tactic| ((with_reducible refine' one_ask ?v1 ?v2 ?v3 ?v4 ?v5 ?_); (case v1 => assumption); (case v2 => walk_at "subl"); (case v3 => assumption); (case v4 => walk_at "own"); (case v5 => simp only [List.length_append, List.length_cons, List.length_nil]; decide); intro _ _ _ _))
local macro_rules | `(tactic| walk_at "ask") => `(tactic| ((with_reducible refine' fig_ask ?v1 ?v2 ?v3 ?v4 ?_); (case v1 => assumption); (case v2 => walk_at "subl"); (case v3 => assumption); (case v4 => walk_at "own"); intro _ _ _ _))
local macro_rules | `(tactic| walk_at "ask") => `(tactic| ((with_reducible refine' low_ask ?v1 ?v2 ?v3 ?v4 ?_); (case v1 => assumption); (case v2 => first | assumption | omega); (case v3 => omega); (case v4 => omega); intro _ _ _ _))
local macro_rules | `(tactic| walk_at "ask") => `(tactic| ((with_reducible refine' frac_ask ?v1 ?v2 ?v3 ?v4 ?_); (case v1 => assumption); (case v2 => walk_at "subl"); (case v3 => assumption); (case v4 => walk_at "own"); intro _ _ _ _ _ _ _))

local macro_rules | `(tactic| walk_at "ask") => `(tactic| with_reducible refine' isI_int ?_)
local macro_rules | `(tactic| walk_at "ask") => `(tactic| ((with_reducible refine' mk_span ?v1 ?v2 ?v3 ?_); (case v1 => assumption); (case v2 => first | assumption | omega); (case v3 => first | assumption | omega); intro _ _ _ _))
local macro_rules | `(tactic| walk_at "ask") => `(tactic| ((with_reducible refine' mk_span1 ?v1 ?_); (case v1 => assumption); intro _ _ _ _))
local macro_rules | `(tactic| walk_at "ask") => `(tactic| ((with_reducible refine' fld_over ?v1 ?v2 ?v3 ?v4 ?_); (case v1 => assumption); (case v2 => assumption); (case v3 => assumption); (case v4 => walk_at "mem")))
local macro_rules | `(tactic| walk_at "ask") => `(tactic| ((with_reducible refine' fld_under ?v1 ?v2 ?v3 ?v4 ?_); (case v1 => assumption); (case v2 => assumption); (case v3 => assumption); (case v4 => walk_at "mem")))
local macro_rules | `(tactic| walk_at "ty") => `(tactic| exact span_ty (by assumption) (by assumption) (by walk_at "mem"))

section
variable {P : Program} {w : World} {K : PySem.W.Frag} {mg : Str → Option Value} {base : Heap}
/-! ### what is refused: BadPart with the very object -/
theorem fnok_cx {CX : CXT} {k : Nat} {f : Addr} {fd : FuncData} {ps : List Str} {sp : Sp} (F : FnOk P w K mg base CX0 k f fd ps sp) : FnOk P w K mg base CX k f fd ps sp :=
  ⟨F.len, fun A outer s H args us vs Q E hr he hb hv hs => codeAny_mono (F.run A outer s H args us vs Q E hr he hb hv hs) fun r s' z => by
    cases r with
    | error e => exact False.elim z
    | ok fl =>
      cases fl with
      | ret u => exact z
      | next => exact z
      | brk => exact z
      | cont => exact z⟩
theorem fnok_or {CX : CXT} {k : Nat} {f : Addr} {fd : FuncData} {ps : List Str} {sp1 sp2 : Sp} (F1 : FnOk P w K mg base CX k f fd ps sp1) (F2 : FnOk P w K mg base CX k f fd ps sp2) : FnOk P w K mg base CX k f fd ps (fun vs H Q E => sp1 vs H Q E ∨ sp2 vs H Q E) :=
  ⟨fun vs H Q E h => h.elim (F1.len vs H Q E) (F2.len vs H Q E), fun A outer s H args us vs Q E hr he hb hv hs => hs.elim (F1.run A outer s H args us vs Q E hr he hb hv) (F2.run A outer s H args us vs Q E hr he hb hv)⟩
def XP (K : PySem.W.Frag) (v : V) (H : Hp) : XK := fun cls d H' => cls = .ref (He.ga K "BadPart") ∧ ∃ d0, d = some d0 ∧ H' d0 = some (.xd [("part", v)]) ∧ Kp [] H H'
theorem XP.kp {v : V} {H H1 : Hp} {cls : Value} {d : Option Addr} {H' : Hp} (k : Kp [] H H1) (h : XP K v H1 cls d H') : XP K v H cls d H' := by
  obtain ⟨h1, d0, h2, h3, h4⟩ := h
  exact ⟨h1, d0, h2, h3, k.trans h4 (fun _ z => nomatch z)⟩
theorem kp_new {H : Hp} {d : Addr} {o : HO} (h : H d = none) : Kp [] H (upd H d o) := fun b u e => .inl (by rw [upd_ne (ne_of_none e h)]; exact e)
theorem ok_BadPart_init (T : Txt K mg) : FnOk P w K mg base CX0 1 (He.fAd K ("BadPart", some "__init__")) T.fd_BadPart_init ["self", "part"] (spExI (He.ga K "BadPart") "part") := by
  refine T.F_BadPart_init.ok sc_BadPart_init (fun vs H Q E h => ?_) (fun cdv A outer s H vs Q E hr h => ?_)
  · obtain ⟨a, v, rfl, _⟩ := h
    rfl
  · obtain ⟨a, v, rfl, ha, k⟩ := h
    refine ⟨_, PSs.nox (pss_one (ps_ost (pv 0) (pv 1))), ?_⟩
    exact ⟨_, rfl, _, rfl, a, _, rfl, T.x_BadPart.oex, T.a_BadPart_part, .inl ⟨ha, fun d hd hn => k d hd hn⟩⟩
theorem badP {σ : L2.St} {H : Hp} {W : XK} {i : Nat} {v : V} (e : σ[i]? = some (some v)) (k : ∀ cls d H', XP K v H cls d H' → W cls d H') : tMkO (He.ga K "BadPart") (spExI (He.ga K "BadPart") "part") [] (tCons (tVar i) tNil) σ H W :=
  mkO_ask ⟨v, e, v, rfl, fun d hd => k _ _ _ ⟨rfl, d, rfl, upd_same, kp_new hd⟩⟩ fun z h => by
    obtain ⟨v, e, q⟩ := h
    exact ⟨v, e, z _ _ q⟩
theorem isOth_kp {z : V} {H H' : Hp} (k : Kp [] H H') (h : IsOth z H) : IsOth z H' := by
  rcases h with rfl | ⟨b, rfl⟩ | ⟨x, rfl⟩ | ⟨a, xs, rfl, e⟩ | ⟨a, xs, rfl, e⟩ | ⟨a, xs, rfl, e⟩
  · exact .inl rfl
  · exact .inr (.inl ⟨b, rfl⟩)
  · exact .inr (.inr (.inl ⟨x, rfl⟩))
  · exact .inr (.inr (.inr (.inl ⟨a, xs, rfl, k.get List.not_mem_nil e⟩)))
  · exact .inr (.inr (.inr (.inr (.inl ⟨a, xs, rfl, k.get List.not_mem_nil e⟩))))
  · exact .inr (.inr (.inr (.inr (.inr ⟨a, xs, rfl, k.get List.not_mem_nil e⟩))))
/-- no int, and what it is beside Span -/
def NoInt (K : PySem.W.Frag) (H : Hp) (x : V) (sp : Bool) : Prop := ∃ (t : Value) (b c : Bool), TyX K H x t ∧ PySem.W.kitOne K t (.ref (He.ga K "Span")) = some sp ∧ PySem.W.kitOne K t (.type "int") = some b ∧ PySem.W.kitOne K t (.type "bool") = some c ∧ (b && !c) = false
theorem noInt_oth (T : Txt K mg) {x : V} {H : Hp} (h : IsOth x H) : NoInt K H x false := by
  rcases h with rfl | ⟨b, rfl⟩ | ⟨z, rfl⟩ | ⟨a, xs, rfl, e⟩ | ⟨a, xs, rfl, e⟩ | ⟨a, xs, rfl, e⟩
  · exact ⟨_, _, _, .base .non, T.q_NoneType_Span, kit_NoneType_int, kit_NoneType_bool, rfl⟩
  · exact ⟨_, _, _, .base (.bl b), T.q_bool_Span, kit_bool_int, kit_bool_bool, rfl⟩
  · exact ⟨_, _, _, .base (.str z), T.q_str_Span, kit_str_int, kit_str_bool, rfl⟩
  · exact ⟨_, _, _, .base (.lst e), T.q_list_Span, kit_list_int, kit_list_bool, rfl⟩
  · exact ⟨_, _, _, .base (.tup e), T.q_tuple_Span, kit_tuple_int, kit_tuple_bool, rfl⟩
  · exact ⟨_, _, _, .base (.dK e), T.q_dict_Span, kit_dict_int, kit_dict_bool, rfl⟩
def spHalvesR (K : PySem.W.Frag) : Sp := fun vs H _ E => ∃ v, vs = [v] ∧ NoInt K H v false ∧ ∀ cls d H', XP K v H cls d H' → E cls d H'
theorem ok_halvesR (T : Txt K mg) : FnOk P w K mg base (L2.CX P w) 3 (He.fAd K ("_halves", none)) T.fd_halves ["number"] (spHalvesR K) := by
  refine T.F_halves.ok sc_halves (fun vs H Q E h => ?_) (fun cdv A outer s H vs Q E hr h => ?_)
  · obtain ⟨v, rfl, _⟩ := h
    rfl
  · obtain ⟨v, rfl, ⟨t, b, c, ty, q1, q2, q3, q4⟩, k⟩ := h
    refine ⟨_, (pss_cons (ps_if (pt_val (pe_callB call_isi (by rfl) T.n_isinstance (by decide +kernel) (pa_cons (pv 0) (pa_cons (pe_glob (v := .ref (He.ga K "Span")) rfl T.g_Span RelT.ref) pa_nil)))) (pss_one (ps_ret (pe_tup (pa_cons (pe_fld (pv 0) rfl) (pa_cons (pe_fld (pv 0) rfl) pa_nil)))))
   pss_nil)
  (pss_cons (ps_if (pt_val (pe_call (ok_is_integer T) (hr.mono (by decide)) rfl T.g_is_integer T.F_is_integer.kp T.b_is_integer .nil pass0 (pa_cons (pv 0) pa_nil))) (pss_one (ps_ret (pe_tup (pa_cons (pv 0) (pa_cons pe_int pa_nil)))))
   pss_nil)
  (pss_one (ps_raise rfl (takes_of rfl rfl rfl rfl) (pmk_oex T.x_BadPart.oex T.x_BadPart.iC T.x_BadPart.tI (ok_BadPart_init T) (hr.mono (by decide)) T.b_BadPart_init .nil pass0 rfl T.g_BadPart (pa_cons (pv 0) pa_nil)))))), ?_⟩
    walk_at "k"
    have s0 : Stt H [] [] H := Stt.nil
    walk_at "rd"
    refine ⟨v, t, b, c, rfl, ty, q2, q3, ?_⟩
    rw [q4]
    walk_at "rd"
    exact badP rfl k
def spHalvesC (K : PySem.W.Frag) : Sp := fun vs H Q E => spHalves K vs H Q E ∨ spHalvesR K vs H Q E
theorem ok_halvesC (T : Txt K mg) : FnOk P w K mg base (L2.CX P w) 3 (He.fAd K ("_halves", none)) T.fd_halves ["number"] (spHalvesC K) := fnok_or ((fnok_cx (ok_halves T)).mono (by decide)) (ok_halvesR T)
end

end
section
local macro_rules | `(tactic| walk_at "subl") => `(tactic| first | with_reducible exact List.nil_sublist _ | with_reducible exact List.Sublist.refl _ | (with_reducible refine List.Sublist.cons₂ _ ?_; walk_at "subl") | (with_reducible refine List.Sublist.cons _ ?_; walk_at "subl"))
local macro_rules | `(tactic| walk_at "k") => `(tactic| try dsimp only [L2.cxOf, L2.Cx.nox, L2.Cx.wish, L2.Cx.blk])
local macro_rules | `(tactic| walk_at "ask") => `(tactic| fail)
local macro_rules | `(tactic| walk_at "mem") => `(tactic| first | with_reducible exact List.mem_cons_self | (with_reducible apply List.mem_cons_of_mem; walk_at "mem"))
local macro_rules | `(tactic| walk_at "put") => `(tactic| first | with_reducible exact Lt.Put.head | (with_reducible apply Lt.Put.tail; walk_at "put"))
local macro_rules | `(tactic| walk_at "own") => `(tactic| first | exact Or.inr (by assumption) | exact Or.inl (by walk_at "mem"))
local macro_rules | `(tactic| walk_at "cnd") => `(tactic| first | assumption | decide | ((try dsimp only); omega) | (unfold CMul; omega) | (unfold CDiv; omega) | (unfold CPow; omega) | exact Or.inr (by decide) | exact Or.inl (by decide) | exact wide_div (b := 128) (by omega) (by omega) (by decide) (by decide))
local macro_rules | `(tactic| walk_at "at") => `(tactic| first | exact rfl | assumption)
local macro_rules | `(tactic| walk_at "kit") => `(tactic| first | assumption | exact kit_int_int | exact kit_int_bool | exact kit_int_str | exact kit_int_list | exact kit_int_tuple | exact kit_int_dict | exact kit_bool_int | exact kit_bool_bool | exact kit_bool_str | exact kit_bool_list | exact kit_bool_tuple | exact kit_bool_dict | exact kit_str_int | exact kit_str_bool | exact kit_str_str | exact kit_str_list | exact kit_str_tuple | exact kit_str_dict | exact kit_list_int | exact kit_list_bool | exact kit_list_str | exact kit_list_list | exact kit_list_tuple | exact kit_list_dict | exact kit_tuple_int | exact kit_tuple_bool | exact kit_tuple_str | exact kit_tuple_list | exact kit_tuple_tuple | exact kit_tuple_dict | exact kit_dict_int | exact kit_dict_bool | exact kit_dict_str | exact kit_dict_list | exact kit_dict_tuple | exact kit_dict_dict | exact kit_NoneType_int | exact kit_NoneType_bool | exact kit_NoneType_str | exact kit_NoneType_list | exact kit_NoneType_tuple | exact kit_NoneType_dict)
local macro_rules | `(tactic| walk_at "kitA") => `(tactic| first | assumption | exact kitA_lt_int | exact kitA_lt_bool | exact kitA_lt_str | exact kitA_lt_list | exact kitA_lt_tuple | exact kitA_lt_dict | exact kitA_lt_NoneType | exact kitA_bilt_int | exact kitA_bilt_bool | exact kitA_bilt_str | exact kitA_bilt_list | exact kitA_bilt_tuple | exact kitA_bilt_dict | exact kitA_bilt_NoneType)
local macro_rules | `(tactic| walk_at "ty") => `(tactic| first | exact .base (.int _) | exact .base (.bl _) | exact .base (.str _) | exact .base .non | exact .base (.lst (Stt.get (by assumption) (by walk_at "mem"))) | exact .base (.tup (Stt.get (by assumption) (by walk_at "mem"))) | exact .base (.dK (Stt.get (by assumption) (by walk_at "mem"))) | exact sqL_ty (Stt.upL (by assumption) (by assumption)) | exact sqT_ty (Stt.upT (by assumption) (by assumption)) | exact InsT.ty (by assumption) (Stt.get (by assumption) (by walk_at "mem")) | assumption)
local macro_rules | `(tactic| walk_at "rd1") => `(tactic| first
  | with_reducible refine' Rd.seq ?_
  | with_reducible refine' Rd.asg ?_
  | ((with_reducible refine' Rd.var ?vh ?_); (case vh => exact rfl))
  | with_reducible refine' Rd.con ?_
  | with_reducible refine' Rd.op ?_
  | with_reducible refine' Rd.i0 ?_
  | ((with_reducible refine' Rd.ic ?vh ?_); (case vh => walk_at "cnd"))
  | ((with_reducible refine' Rd.ixL ?v1 ?v2 ?v3 ?_); (case v1 => assumption); (case v2 => walk_at "mem"); (case v3 => walk_at "at"))
  | ((with_reducible refine' Rd.ixT ?v1 ?v2 ?v3 ?_); (case v1 => assumption); (case v2 => walk_at "mem"); (case v3 => walk_at "at"))
  | ((with_reducible refine' Rd.ixD2 ?v1 ?v2 ?_); (case v1 => assumption); (case v2 => walk_at "mem"); intro _)
  | ((with_reducible refine' Rd.ixD3 ?v1 ?v2 ?_); (case v1 => assumption); (case v2 => walk_at "mem"); intro _)
  | ((with_reducible refine' Rd.setD2 ?v1 ?v2 ?v3 ?v4 ?_); (case v1 => assumption); (case v2 => walk_at "mem"); (case v3 => walk_at "put"); (case v4 => walk_at "own"); intro _ _)
  | ((with_reducible refine' Rd.isi ?v1 ?v2 ?v3 ?_); (case v1 => walk_at "ty"); (case v2 => first | exact ClsV.ty _ | exact ClsV.own _); (case v3 => walk_at "kit"))
  | with_reducible refine' Rd.fld ?_
  | ((with_reducible refine' Rd.fldI ?v1 ?v2 ?v3 ?v4 ?v5 ?_); (case v1 => assumption); (case v2 => walk_at "mem"); (case v3 => assumption); (case v4 => assumption); (case v5 => walk_at "at"))
  | with_reducible refine' Rd.sfld ?_
  | ((with_reducible refine' Rd.sfldI ?v1 ?v2 ?v3 ?v4 ?v5 ?v6 ?v7 ?_); (case v1 => assumption); (case v2 => walk_at "mem"); (case v3 => assumption); (case v4 => assumption); (case v5 => first | decide | (refine Nat.lt_of_le_of_lt (putF_len _ _ _) ?_; decide)); (case v6 => walk_at "put"); (case v7 => walk_at "own"); intro _ _)
  | with_reducible refine' Rd.make ?_
  | with_reducible refine' Rd.gcd ?_
  | with_reducible refine' Rd.cons ?_
  | with_reducible refine' Rd.nil ?_
  | with_reducible refine' Rd.cb ?_
  | with_reducible refine' Rd.intI ?_
  | with_reducible refine' Rd.absI ?_
  | ((with_reducible refine' Rd.lenL ?v1 ?v2 ?_); (case v1 => assumption); (case v2 => walk_at "mem"))
  | ((with_reducible refine' Rd.lenT ?v1 ?v2 ?_); (case v1 => assumption); (case v2 => walk_at "mem"))
  | ((with_reducible refine' Rd.lenBL ?v1 ?v2 ?v3 ?_); (case v1 => assumption); (case v2 => assumption); (case v3 => first | exact List.not_mem_nil | assumption))
  | ((with_reducible refine' Rd.lenBT ?v1 ?v2 ?v3 ?_); (case v1 => assumption); (case v2 => assumption); (case v3 => first | exact List.not_mem_nil | assumption))
  | ((with_reducible refine' Rd.ixBL ?v1 ?v2 ?v4 ?v3 ?_); (case v1 => assumption); (case v2 => assumption); (case v4 => first | exact List.not_mem_nil | assumption); (case v3 => walk_at "at"))
  | ((with_reducible refine' Rd.ixBT ?v1 ?v2 ?v4 ?v3 ?_); (case v1 => assumption); (case v2 => assumption); (case v4 => first | exact List.not_mem_nil | assumption); (case v3 => walk_at "at"))
  | ((with_reducible refine' Rd.brI ?vh ?_); (case vh => with_reducible exact rfl))
  | with_reducible refine' Rd.ifS ?_
  | with_reducible refine' Rd.test ?_
  | with_reducible refine' Rd.tbl ?_
  | with_reducible refine' Rd.bl ?_
  | with_reducible refine' Rd.brTT ?_
  | with_reducible refine' Rd.brFF ?_
  | with_reducible refine' Rd.brN ?_
  | ((with_reducible refine' Rd.aug ?vh ?_); (case vh => exact rfl))
  | with_reducible refine' Rd.ipI ?_
  | with_reducible refine' Rd.blV ?_
  | with_reducible refine' Rd.notVL ?_
  | with_reducible refine' Rd.andT ?_
  | with_reducible refine' Rd.orT ?_
  | with_reducible refine' Rd.notT ?_
  | with_reducible refine' Rd.andV ?_
  | with_reducible refine' Rd.orV ?_
  | with_reducible refine' Rd.notV ?_
  | with_reducible refine' Rd.ifE ?_
  | ((with_reducible refine' Rd.eqS ?vh ?_); (case vh => exact rfl))
  | ((with_reducible refine' Rd.neS ?vh ?_); (case vh => exact rfl))
  | with_reducible refine' Rd.par ?_
  | with_reducible refine' Rd.parL ?_
  | with_reducible refine' Rd.un ?_
  | with_reducible refine' Rd.u1 ?_
  | with_reducible refine' Rd.sub ?_
  | ((with_reducible refine' Rd.setL ?v1 ?v2 ?v3 ?v4 ?v5 ?_); (case v1 => assumption); (case v2 => walk_at "mem"); (case v3 => walk_at "at"); (case v4 => walk_at "put"); (case v5 => walk_at "own"); intro _ _)
  | with_reducible refine' Rd.tup ?_
  | with_reducible refine' Rd.lst ?_
  | ((with_reducible refine' Rd.tupN ?v1 ?v2 ?_); (case v1 => assumption); (case v2 => simp only [List.length_cons, List.length_nil]; decide); intro _ _ _ _)
  | ((with_reducible refine' Rd.lstN ?v1 ?v2 ?_); (case v1 => assumption); (case v2 => simp only [List.length_cons, List.length_nil]; decide); intro _ _ _ _)
  | with_reducible refine' Rd.ret ?_
  | with_reducible refine' Rd.drop ?_
  | with_reducible refine' Rd.retN ?_
  | with_reducible refine' Rd.next ?_
  | with_reducible refine' Rd.brk ?_
  | with_reducible refine' Rd.cont ?_
  | with_reducible refine' Rd.call ?_
  | walk_at "ask"
  | with_reducible refine' Rd.bm ?_
  | ((with_reducible refine' Rd.bmL ?v1 ?v2 ?_); (case v1 => assumption); (case v2 => walk_at "mem"))
  | ((with_reducible refine' Rd.app ?v1 ?v2 ?v3 ?v4 ?v5 ?_); (case v1 => assumption); (case v2 => walk_at "mem"); (case v3 => simp only [List.length_cons, List.length_nil, List.length_append]; omega); (case v4 => walk_at "put"); (case v5 => walk_at "own"); intro _ _)
  | with_reducible refine' Rd.asgT ?_
  | ((with_reducible refine' Rd.gtup ?v1 ?v2 ?v3 ?_); (case v1 => assumption); (case v2 => walk_at "mem"); (case v3 => exact rfl))
  | with_reducible refine' Rd.gcons ?_
  | with_reducible refine' Rd.gname ?_
  | with_reducible refine' Rd.gnil ?_
  | with_reducible refine' Rd.sl ?_
  | with_reducible refine' Rd.noPart ?_
  | with_reducible refine' Rd.part ?_
  | with_reducible refine' Rd.prt ?_
  | with_reducible refine' Rd.isB ?_
  | ((with_reducible refine' Rd.wp ?vh ?_); (case vh => exact rfl))
  | with_reducible refine' Rd.makeK ?_
  | with_reducible refine' Rd.meth ?_
  | ((with_reducible refine' Rd.catL ?v1 ?v2 ?v3 ?v4 ?_); (case v1 => assumption); (case v2 => walk_at "mem"); (case v3 => walk_at "mem"); (case v4 => simp only [List.length_cons, List.length_nil, List.length_append]; omega); intro _ _ _ _)
  | with_reducible refine' Rd.dnew ?_
  | ((with_reducible refine' Rd.dnewL ?v1 ?_); (case v1 => assumption); intro _ _ _ _)
  | with_reducible refine' Rd.lc ?_
  | with_reducible refine' Rd.wZ ?_
  | with_reducible refine' Rd.tYesH ?_
  | with_reducible refine' Rd.fmt ?_
  | with_reducible refine' Rd.joined ?_
  | with_reducible refine' Rd.jsNil ?_
  | with_reducible refine' Rd.jsCons ?_
  | ((with_reducible refine' Rd.isiT ?v1 ?v2 ?v3 ?v4 ?v5 ?_); (case v1 => assumption); (case v2 => walk_at "mem"); (case v3 => walk_at "ty"); (case v4 => first | exact .cons (.ty _) (.cons (.ty _) .nil) | exact .cons (.ty _) (.cons (.ty _) (.cons (.ty _) (.cons (.ty _) .nil))) | exact .cons (.ty _) (.cons (.ty _) (.cons (.ty _) .nil))); (case v5 => walk_at "kitA"))
  | with_reducible refine' Rd.forS ?_
  | with_reducible refine' Rd.wEnT ?_
  | ((with_reducible refine' Rd.wEnTL ?v1 ?v2 ?_); (case v1 => assumption); (case v2 => walk_at "mem"))
  | with_reducible refine' Rd.wL ?_
  | ((with_reducible refine' Rd.wLL ?v1 ?v2 ?_); (case v1 => assumption); (case v2 => walk_at "mem"))
  | with_reducible refine' Rd.wT ?_
  | ((with_reducible refine' Rd.wTL ?v1 ?v2 ?_); (case v1 => assumption); (case v2 => walk_at "mem"))
  | with_reducible refine' Rd.wR1 ?_
  | ((with_reducible refine' Rd.wR1L ?v1 ?v2 ?_); (case v1 => omega); (case v2 => omega))
  | with_reducible refine' Rd.wR2 ?_
  | ((with_reducible refine' Rd.wR2L ?v1 ?_); (case v1 => omega)))
local macro_rules | `(tactic| walk_at "rd") => `(tactic| repeat (walk_at "rd1"))

local macro_rules | `(tactic| walk_at "ask") => `(tactic| ((with_reducible refine' fill_ask ?v1 ?v2 ?v3 ?v4 ?v5 ?_); (case v1 => assumption); (case v2 => walk_at "mem"); (case v3 => walk_at "mem"); (case v4 => assumption); (case v5 => walk_at "own"); intro _ _))

local macro_rules | `(tactic| walk_at "ask") => `(tactic| ((with_reducible refine' take_ask ?v1 ?v2 ?v3 ?v4 ?v5 ?v6 ?_); (case v1 => assumption); (case v2 => walk_at "mem"); (case v3 => walk_at "mem"); (case v4 => assumption); (case v5 => walk_at "own"); (case v6 => first | decide | omega); intro _ _ _ _))
local macro_rules | `(tactic| walk_at "ask") => `(tactic| ((with_reducible refine' one_ask ?v1 ?v2 ?v3 ?v4 ?v5 ?_); (case v1 => assumption); (case v2 => walk_at "subl"); (case v3 => assumption); (case v4 => walk_at "own"); (case v5 => simp only [List.length_append, List.length_cons, List.length_nil]; decide); intro _ _ _ _))
local macro_rules | `(tactic| walk_at "ask") => `(tactic| ((with_reducible refine' fig_ask ?v1 ?v2 ?v3 ?v4 ?_); (case v1 => assumption); (case v2 => walk_at "subl"); (case v3 => assumption); (case v4 => walk_at "own"); intro _ _ _ _))
local macro_rules | `(tactic| walk_at "ask") => `(tactic| ((with_reducible refine' low_ask ?v1 ?v2 ?v3 ?v4 ?_); (case v1 => assumption); (case v2 => first | assumption | omega); (case v3 => omega); (case v4 => omega); intro _ _ _ _))
local macro_rules | `(tactic| walk_at "ask") => `(tactic| ((with_reducible refine' frac_ask ?v1 ?v2 ?v3 ?v4 ?_); (case v1 => assumption); (case v2 => walk_at "subl"); (case v3 => assumption); (case v4 => walk_at "own"); intro _ _ _ _ _ _ _))

local macro_rules | `(tactic| walk_at "ask") => `(tactic| with_reducible refine' isI_int ?_)
local macro_rules | `(tactic| walk_at "ask") => `(tactic| ((with_reducible refine' mk_span ?v1 ?v2 ?v3 ?_); (case v1 => assumption); (case v2 => first | assumption | omega); (case v3 => first | assumption | omega); intro _ _ _ _))
local macro_rules | `(tactic| walk_at "ask") => `(tactic| ((with_reducible refine' mk_span1 ?v1 ?_); (case v1 => assumption); intro _ _ _ _))
local macro_rules | `(tactic| walk_at "ask") => `(tactic| ((with_reducible refine' fld_over ?v1 ?v2 ?v3 ?v4 ?_); (case v1 => assumption); (case v2 => assumption); (case v3 => assumption); (case v4 => walk_at "mem")))
local macro_rules | `(tactic| walk_at "ask") => `(tactic| ((with_reducible refine' fld_under ?v1 ?v2 ?v3 ?v4 ?_); (case v1 => assumption); (case v2 => assumption); (case v3 => assumption); (case v4 => walk_at "mem")))
local macro_rules | `(tactic| walk_at "ty") => `(tactic| exact span_ty (by assumption) (by assumption) (by walk_at "mem"))

section
variable {P : Program} {w : World} {K : PySem.W.Frag} {mg : Str → Option Value} {base : Heap}
/-- one of two numbers is none: the first such is refused -/
def Ref2 (K : PySem.W.Frag) (H : Hp) (x y v : V) : Prop := (∃ a b, IsNum K H x a b ∧ IsOth y H ∧ v = y) ∨ (IsOth x H ∧ v = x)
def spRef2 (K : PySem.W.Frag) : Sp := fun vs H _ E => ∃ x y v, vs = [x, y] ∧ Ref2 K H x y v ∧ ∀ cls d H', XP K v H cls d H' → E cls d H'
theorem halvesC_num {H0 H : Hp} {S : List Addr} {l : Led} {v : V} {a b : Int} {Q : VK} {E : XK} (s : Stt H0 S l H) (h : IsNum K H v a b) (k : ∀ p H', H0 p = none → Kp [] H H' → Stt H0 S ((p, Is (.tup [.int a, .int b])) :: l) H' → Q (.ref p) H') : spHalvesC K ([v] ++ []) H Q E :=
  .inl (halves_ask (E := E) s h k)
theorem halvesC_oth (T : Txt K mg) {H : Hp} {v : V} {Q : VK} {E : XK} (h : IsOth v H) (k : ∀ cls d H', XP K v H cls d H' → E cls d H') : spHalvesC K ([v] ++ []) H Q E :=
  .inr ⟨v, rfl, noInt_oth T h, k⟩
theorem ok_sumR (T : Txt K mg) : FnOk P w K mg base (L2.CX P w) 5 (He.fAd K ("_sum", none)) T.fd_sum ["one", "two"] (spRef2 K) := by
  refine T.F_sum.ok sc_sum (fun vs H Q E h => ?_) (fun cdv A outer s H vs Q E hr h => ?_)
  · obtain ⟨x, y, v, rfl, _⟩ := h
    rfl
  · obtain ⟨x, y, v, rfl, hv, k⟩ := h
    refine ⟨_, (pss_cons (ps_asg (pe_call (ok_halvesC T) (hr.mono (by decide)) rfl T.g_halves T.F_halves.kp T.b_halves .nil (passes_call (takes_of rfl rfl rfl rfl) (fun _ _ _ _ h => h)) (pa_cons (pv 0) pa_nil)) (pg_tup (by rfl) (pgs_cons (pg_name (i := 2) sc_sum.nd rfl (by first | exact Or.inl rfl | exact Or.inr rfl)) (pgs_cons (pg_name (i := 3) sc_sum.nd rfl (by first | exact Or.inl rfl | exact Or.inr rfl)) pgs_nil))))
  (pss_cons (ps_asg (pe_call (ok_halvesC T) (hr.mono (by decide)) rfl T.g_halves T.F_halves.kp T.b_halves .nil (passes_call (takes_of rfl rfl rfl rfl) (fun _ _ _ _ h => h)) (pa_cons (pv 1) pa_nil)) (pg_tup (by rfl) (pgs_cons (pg_name (i := 4) sc_sum.nd rfl (by first | exact Or.inl rfl | exact Or.inr rfl)) (pgs_cons (pg_name (i := 5) sc_sum.nd rfl (by first | exact Or.inl rfl | exact Or.inr rfl)) pgs_nil))))
  (pss_one (ps_ret (pe_makeX T.k_Span (ok_Span_init T) (hr.mono (by decide)) rfl T.g_Span T.b_Span_init2 pass0 (pa_cons (pe_op op_add (pe_op op_mulW (pv 2) (pv 5)) (pe_op op_mulW (pv 4) (pv 3))) (pa_cons (pe_op op_mulW (pv 3) (pv 5)) pa_nil))))))), ?_⟩
    walk_at "k"
    have s0 : Stt H [] [] H := Stt.nil
    rcases hv with ⟨a, b, hx, hy, rfl⟩ | ⟨hx, rfl⟩
    · walk_at "rd"
      refine halvesC_num s0 hx fun p H1 hp k1 s1 => ?_
      walk_at "rd"
      exact halvesC_oth T (isOth_kp k1 hy) fun cls d H' z => k cls d H' (z.kp k1)
    · walk_at "rd"
      exact halvesC_oth T hx k
def spsumC (K : PySem.W.Frag) : Sp := fun vs H Q E => (spAr K (fun a b c d => a * d + c * b) (fun a b c d => b * d)) vs H Q E ∨ spRef2 K vs H Q E
theorem ok_sumC (T : Txt K mg) : FnOk P w K mg base (L2.CX P w) 5 (He.fAd K ("_sum", none)) T.fd_sum ["one", "two"] (spsumC K) := fnok_or ((fnok_cx (ok_sum T)).mono (by decide)) (ok_sumR T)
theorem ok_differenceR (T : Txt K mg) : FnOk P w K mg base (L2.CX P w) 5 (He.fAd K ("_difference", none)) T.fd_difference ["one", "two"] (spRef2 K) := by
  refine T.F_difference.ok sc_difference (fun vs H Q E h => ?_) (fun cdv A outer s H vs Q E hr h => ?_)
  · obtain ⟨x, y, v, rfl, _⟩ := h
    rfl
  · obtain ⟨x, y, v, rfl, hv, k⟩ := h
    refine ⟨_, (pss_cons (ps_asg (pe_call (ok_halvesC T) (hr.mono (by decide)) rfl T.g_halves T.F_halves.kp T.b_halves .nil (passes_call (takes_of rfl rfl rfl rfl) (fun _ _ _ _ h => h)) (pa_cons (pv 0) pa_nil)) (pg_tup (by rfl) (pgs_cons (pg_name (i := 2) sc_difference.nd rfl (by first | exact Or.inl rfl | exact Or.inr rfl)) (pgs_cons (pg_name (i := 3) sc_difference.nd rfl (by first | exact Or.inl rfl | exact Or.inr rfl)) pgs_nil))))
  (pss_cons (ps_asg (pe_call (ok_halvesC T) (hr.mono (by decide)) rfl T.g_halves T.F_halves.kp T.b_halves .nil (passes_call (takes_of rfl rfl rfl rfl) (fun _ _ _ _ h => h)) (pa_cons (pv 1) pa_nil)) (pg_tup (by rfl) (pgs_cons (pg_name (i := 4) sc_difference.nd rfl (by first | exact Or.inl rfl | exact Or.inr rfl)) (pgs_cons (pg_name (i := 5) sc_difference.nd rfl (by first | exact Or.inl rfl | exact Or.inr rfl)) pgs_nil))))
  (pss_one (ps_ret (pe_makeX T.k_Span (ok_Span_init T) (hr.mono (by decide)) rfl T.g_Span T.b_Span_init2 pass0 (pa_cons (pe_op op_sub (pe_op op_mulW (pv 2) (pv 5)) (pe_op op_mulW (pv 4) (pv 3))) (pa_cons (pe_op op_mulW (pv 3) (pv 5)) pa_nil))))))), ?_⟩
    walk_at "k"
    have s0 : Stt H [] [] H := Stt.nil
    rcases hv with ⟨a, b, hx, hy, rfl⟩ | ⟨hx, rfl⟩
    · walk_at "rd"
      refine halvesC_num s0 hx fun p H1 hp k1 s1 => ?_
      walk_at "rd"
      exact halvesC_oth T (isOth_kp k1 hy) fun cls d H' z => k cls d H' (z.kp k1)
    · walk_at "rd"
      exact halvesC_oth T hx k
def spdifferenceC (K : PySem.W.Frag) : Sp := fun vs H Q E => (spAr K (fun a b c d => a * d - c * b) (fun a b c d => b * d)) vs H Q E ∨ spRef2 K vs H Q E
theorem ok_differenceC (T : Txt K mg) : FnOk P w K mg base (L2.CX P w) 5 (He.fAd K ("_difference", none)) T.fd_difference ["one", "two"] (spdifferenceC K) := fnok_or ((fnok_cx (ok_difference T)).mono (by decide)) (ok_differenceR T)
theorem ok_productR (T : Txt K mg) : FnOk P w K mg base (L2.CX P w) 5 (He.fAd K ("_product", none)) T.fd_product ["one", "two"] (spRef2 K) := by
  refine T.F_product.ok sc_product (fun vs H Q E h => ?_) (fun cdv A outer s H vs Q E hr h => ?_)
  · obtain ⟨x, y, v, rfl, _⟩ := h
    rfl
  · obtain ⟨x, y, v, rfl, hv, k⟩ := h
    refine ⟨_, (pss_cons (ps_asg (pe_call (ok_halvesC T) (hr.mono (by decide)) rfl T.g_halves T.F_halves.kp T.b_halves .nil (passes_call (takes_of rfl rfl rfl rfl) (fun _ _ _ _ h => h)) (pa_cons (pv 0) pa_nil)) (pg_tup (by rfl) (pgs_cons (pg_name (i := 2) sc_product.nd rfl (by first | exact Or.inl rfl | exact Or.inr rfl)) (pgs_cons (pg_name (i := 3) sc_product.nd rfl (by first | exact Or.inl rfl | exact Or.inr rfl)) pgs_nil))))
  (pss_cons (ps_asg (pe_call (ok_halvesC T) (hr.mono (by decide)) rfl T.g_halves T.F_halves.kp T.b_halves .nil (passes_call (takes_of rfl rfl rfl rfl) (fun _ _ _ _ h => h)) (pa_cons (pv 1) pa_nil)) (pg_tup (by rfl) (pgs_cons (pg_name (i := 4) sc_product.nd rfl (by first | exact Or.inl rfl | exact Or.inr rfl)) (pgs_cons (pg_name (i := 5) sc_product.nd rfl (by first | exact Or.inl rfl | exact Or.inr rfl)) pgs_nil))))
  (pss_one (ps_ret (pe_makeX T.k_Span (ok_Span_init T) (hr.mono (by decide)) rfl T.g_Span T.b_Span_init2 pass0 (pa_cons (pe_op op_mulW (pv 2) (pv 4)) (pa_cons (pe_op op_mulW (pv 3) (pv 5)) pa_nil))))))), ?_⟩
    walk_at "k"
    have s0 : Stt H [] [] H := Stt.nil
    rcases hv with ⟨a, b, hx, hy, rfl⟩ | ⟨hx, rfl⟩
    · walk_at "rd"
      refine halvesC_num s0 hx fun p H1 hp k1 s1 => ?_
      walk_at "rd"
      exact halvesC_oth T (isOth_kp k1 hy) fun cls d H' z => k cls d H' (z.kp k1)
    · walk_at "rd"
      exact halvesC_oth T hx k
def spproductC (K : PySem.W.Frag) : Sp := fun vs H Q E => (spAr K (fun a b c d => a * c) (fun a b c d => b * d)) vs H Q E ∨ spRef2 K vs H Q E
theorem ok_productC (T : Txt K mg) : FnOk P w K mg base (L2.CX P w) 5 (He.fAd K ("_product", none)) T.fd_product ["one", "two"] (spproductC K) := fnok_or ((fnok_cx (ok_product T)).mono (by decide)) (ok_productR T)
theorem ok_gapR (T : Txt K mg) : FnOk P w K mg base (L2.CX P w) 4 (He.fAd K ("_gap", none)) T.fd_gap ["one", "two"] (spRef2 K) := by
  refine T.F_gap.ok sc_gap (fun vs H Q E h => ?_) (fun cdv A outer s H vs Q E hr h => ?_)
  · obtain ⟨x, y, v, rfl, _⟩ := h
    rfl
  · obtain ⟨x, y, v, rfl, hv, k⟩ := h
    refine ⟨_, (pss_cons (ps_asg (pe_call (ok_halvesC T) (hr.mono (by decide)) rfl T.g_halves T.F_halves.kp T.b_halves .nil (passes_call (takes_of rfl rfl rfl rfl) (fun _ _ _ _ h => h)) (pa_cons (pv 0) pa_nil)) (pg_tup (by rfl) (pgs_cons (pg_name (i := 2) sc_gap.nd rfl (by first | exact Or.inl rfl | exact Or.inr rfl)) (pgs_cons (pg_name (i := 3) sc_gap.nd rfl (by first | exact Or.inl rfl | exact Or.inr rfl)) pgs_nil))))
  (pss_cons (ps_asg (pe_call (ok_halvesC T) (hr.mono (by decide)) rfl T.g_halves T.F_halves.kp T.b_halves .nil (passes_call (takes_of rfl rfl rfl rfl) (fun _ _ _ _ h => h)) (pa_cons (pv 1) pa_nil)) (pg_tup (by rfl) (pgs_cons (pg_name (i := 4) sc_gap.nd rfl (by first | exact Or.inl rfl | exact Or.inr rfl)) (pgs_cons (pg_name (i := 5) sc_gap.nd rfl (by first | exact Or.inl rfl | exact Or.inr rfl)) pgs_nil))))
  (pss_one (ps_ret (pe_op op_sub (pe_op op_mulW (pv 2) (pv 5)) (pe_op op_mulW (pv 4) (pv 3))))))), ?_⟩
    walk_at "k"
    have s0 : Stt H [] [] H := Stt.nil
    rcases hv with ⟨a, b, hx, hy, rfl⟩ | ⟨hx, rfl⟩
    · walk_at "rd"
      refine halvesC_num s0 hx fun p H1 hp k1 s1 => ?_
      walk_at "rd"
      exact halvesC_oth T (isOth_kp k1 hy) fun cls d H' z => k cls d H' (z.kp k1)
    · walk_at "rd"
      exact halvesC_oth T hx k
def spgapC (K : PySem.W.Frag) : Sp := fun vs H Q E => (spGap K) vs H Q E ∨ spRef2 K vs H Q E
theorem ok_gapC (T : Txt K mg) : FnOk P w K mg base (L2.CX P w) 4 (He.fAd K ("_gap", none)) T.fd_gap ["one", "two"] (spgapC K) := fnok_or ((fnok_cx (ok_gap T)).mono (by decide)) (ok_gapR T)
/-- .. and nought behind // and % -/
def spRefZ (K : PySem.W.Frag) : Sp := fun vs H Q E => spRef2 K vs H Q E ∨ ∃ x y a b d, vs = [x, y] ∧ IsNum K H x a b ∧ IsNum K H y 0 d ∧ ∀ cls e H', XP K y H cls e H' → E cls e H'
theorem ok_quotientR (T : Txt K mg) : FnOk P w K mg base (L2.CX P w) 4 (He.fAd K ("_quotient", none)) T.fd_quotient ["one", "two"] (spRefZ K) := by
  refine T.F_quotient.ok sc_quotient (fun vs H Q E h => ?_) (fun cdv A outer s H vs Q E hr h => ?_)
  · rcases h with ⟨x, y, v, rfl, _⟩ | ⟨x, y, a, b, d, rfl, _⟩ <;> rfl
  · obtain ⟨x, y, e⟩ : ∃ x y, vs = [x, y] := by rcases h with ⟨x, y, v, rfl, _⟩ | ⟨x, y, a, b, d, rfl, _⟩ <;> exact ⟨_, _, rfl⟩
    subst e
    refine ⟨_, (pss_cons (ps_asg (pe_call (ok_halvesC T) (hr.mono (by decide)) rfl T.g_halves T.F_halves.kp T.b_halves .nil (passes_call (takes_of rfl rfl rfl rfl) (fun _ _ _ _ h => h)) (pa_cons (pv 0) pa_nil)) (pg_tup (by rfl) (pgs_cons (pg_name (i := 2) sc_quotient.nd rfl (by first | exact Or.inl rfl | exact Or.inr rfl)) (pgs_cons (pg_name (i := 3) sc_quotient.nd rfl (by first | exact Or.inl rfl | exact Or.inr rfl)) pgs_nil))))
  (pss_cons (ps_asg (pe_call (ok_halvesC T) (hr.mono (by decide)) rfl T.g_halves T.F_halves.kp T.b_halves .nil (passes_call (takes_of rfl rfl rfl rfl) (fun _ _ _ _ h => h)) (pa_cons (pv 1) pa_nil)) (pg_tup (by rfl) (pgs_cons (pg_name (i := 4) sc_quotient.nd rfl (by first | exact Or.inl rfl | exact Or.inr rfl)) (pgs_cons (pg_name (i := 5) sc_quotient.nd rfl (by first | exact Or.inl rfl | exact Or.inr rfl)) pgs_nil))))
  (pss_cons (ps_if (pt_cmpR op_eq (pv 4) pe_int (nomark _)) (pss_one (ps_raise rfl (takes_of rfl rfl rfl rfl) (pmk_oex T.x_BadPart.oex T.x_BadPart.iC T.x_BadPart.tI (ok_BadPart_init T) (hr.mono (by decide)) T.b_BadPart_init .nil pass0 rfl T.g_BadPart (pa_cons (pv 1) pa_nil))))
   pss_nil)
  (pss_one (ps_ret (pe_op op_fdivZ (pe_op op_mulW (pv 2) (pv 5)) (pe_op op_mulW (pv 3) (pv 4)))))))), ?_⟩
    walk_at "k"
    have s0 : Stt H [] [] H := Stt.nil
    rcases h with ⟨x', y', v, e, ⟨a, b, hx, hy, rfl⟩ | ⟨hx, rfl⟩, k⟩ | ⟨x', y', a, b, d, e, hx, hy, k⟩
    · cases e
      walk_at "rd"
      refine halvesC_num s0 hx fun p H1 hp k1 s1 => ?_
      walk_at "rd"
      exact halvesC_oth T (isOth_kp k1 hy) fun cls d H' z => k cls d H' (z.kp k1)
    · cases e
      walk_at "rd"
      exact halvesC_oth T hx k
    · cases e
      walk_at "rd"
      refine halvesC_num s0 hx fun p H1 hp k1 s1 => ?_
      walk_at "rd"
      refine halvesC_num s1 (hy.kp0 k1) fun q H2 hq k2 s2 => ?_
      walk_at "rd"
      exact badP rfl fun cls e H' z => k cls e H' (z.kp (k1.trans k2 (fun _ h => nomatch h)))
def spQuoC (K : PySem.W.Frag) : Sp := fun vs H Q E => spQuo K vs H Q E ∨ spRefZ K vs H Q E
theorem ok_quotientC (T : Txt K mg) : FnOk P w K mg base (L2.CX P w) 4 (He.fAd K ("_quotient", none)) T.fd_quotient ["one", "two"] (spQuoC K) := fnok_or ((fnok_cx (ok_quotient T)).mono (by decide)) (ok_quotientR T)
theorem ok_remainderR (T : Txt K mg) : FnOk P w K mg base (L2.CX P w) 5 (He.fAd K ("_remainder", none)) T.fd_remainder ["one", "two"] (spRefZ K) := by
  refine T.F_remainder.ok sc_remainder (fun vs H Q E h => ?_) (fun cdv A outer s H vs Q E hr h => ?_)
  · rcases h with ⟨x, y, v, rfl, _⟩ | ⟨x, y, a, b, d, rfl, _⟩ <;> rfl
  · obtain ⟨x, y, e⟩ : ∃ x y, vs = [x, y] := by rcases h with ⟨x, y, v, rfl, _⟩ | ⟨x, y, a, b, d, rfl, _⟩ <;> exact ⟨_, _, rfl⟩
    subst e
    refine ⟨_, (pss_cons (ps_asg (pe_call (ok_quotientC T) (hr.mono (by decide)) rfl T.g_quotient T.F_quotient.kp T.b_quotient .nil (passes_call (takes_of rfl rfl rfl rfl) (fun _ _ _ _ h => h)) (pa_cons (pv 0) (pa_cons (pv 1) pa_nil))) (pg_name (i := 2) sc_remainder.nd rfl (by first | exact Or.inl rfl | exact Or.inr rfl)))
  (pss_cons (ps_asg (pe_call (ok_halvesC T) (hr.mono (by decide)) rfl T.g_halves T.F_halves.kp T.b_halves .nil (passes_call (takes_of rfl rfl rfl rfl) (fun _ _ _ _ h => h)) (pa_cons (pv 0) pa_nil)) (pg_tup (by rfl) (pgs_cons (pg_name (i := 3) sc_remainder.nd rfl (by first | exact Or.inl rfl | exact Or.inr rfl)) (pgs_cons (pg_name (i := 4) sc_remainder.nd rfl (by first | exact Or.inl rfl | exact Or.inr rfl)) pgs_nil))))
  (pss_cons (ps_asg (pe_call (ok_halvesC T) (hr.mono (by decide)) rfl T.g_halves T.F_halves.kp T.b_halves .nil (passes_call (takes_of rfl rfl rfl rfl) (fun _ _ _ _ h => h)) (pa_cons (pv 1) pa_nil)) (pg_tup (by rfl) (pgs_cons (pg_name (i := 5) sc_remainder.nd rfl (by first | exact Or.inl rfl | exact Or.inr rfl)) (pgs_cons (pg_name (i := 6) sc_remainder.nd rfl (by first | exact Or.inl rfl | exact Or.inr rfl)) pgs_nil))))
  (pss_one (ps_ret (pe_makeX T.k_Span (ok_Span_init T) (hr.mono (by decide)) rfl T.g_Span T.b_Span_init2 pass0 (pa_cons (pe_op op_sub (pe_op op_mulW (pv 3) (pv 6)) (pe_op op_mulW (pe_op op_mulW (pv 2) (pv 5)) (pv 4))) (pa_cons (pe_op op_mulW (pv 4) (pv 6)) pa_nil)))))))), ?_⟩
    walk_at "k"
    walk_at "rd"
    exact .inr h
def spRemC (K : PySem.W.Frag) : Sp := fun vs H Q E => spRem K vs H Q E ∨ spRefZ K vs H Q E
theorem ok_remainderC (T : Txt K mg) : FnOk P w K mg base (L2.CX P w) 5 (He.fAd K ("_remainder", none)) T.fd_remainder ["one", "two"] (spRemC K) := fnok_or ((fnok_cx (ok_remainder T)).mono (by decide)) (ok_remainderR T)
end

end
section
local macro_rules | `(tactic| walk_at "subl") => `(tactic| first | with_reducible exact List.nil_sublist _ | with_reducible exact List.Sublist.refl _ | (with_reducible refine List.Sublist.cons₂ _ ?_; walk_at "subl") | (with_reducible refine List.Sublist.cons _ ?_; walk_at "subl"))
local macro_rules | `(tactic| walk_at "k") => `(tactic| try dsimp only [L2.cxOf, L2.Cx.nox, L2.Cx.wish, L2.Cx.blk])
local macro_rules | `(tactic| walk_at "ask") => `(tactic| fail)
local macro_rules | `(tactic| walk_at "mem") => `(tactic| first | with_reducible exact List.mem_cons_self | (with_reducible apply List.mem_cons_of_mem; walk_at "mem"))
local macro_rules | `(tactic| walk_at "put") => `(tactic| first | with_reducible exact Lt.Put.head | (with_reducible apply Lt.Put.tail; walk_at "put"))
local macro_rules | `(tactic| walk_at "own") => `(tactic| first | exact Or.inr (by assumption) | exact Or.inl (by walk_at "mem"))
local macro_rules | `(tactic| walk_at "cnd") => `(tactic| first | assumption | decide | ((try dsimp only); omega) | (unfold CMul; omega) | (unfold CDiv; omega) | (unfold CPow; omega) | exact Or.inr (by decide) | exact Or.inl (by decide) | exact wide_div (b := 128) (by omega) (by omega) (by decide) (by decide))
local macro_rules | `(tactic| walk_at "at") => `(tactic| first | exact rfl | assumption)
local macro_rules | `(tactic| walk_at "kit") => `(tactic| first | assumption | exact kit_int_int | exact kit_int_bool | exact kit_int_str | exact kit_int_list | exact kit_int_tuple | exact kit_int_dict | exact kit_bool_int | exact kit_bool_bool | exact kit_bool_str | exact kit_bool_list | exact kit_bool_tuple | exact kit_bool_dict | exact kit_str_int | exact kit_str_bool | exact kit_str_str | exact kit_str_list | exact kit_str_tuple | exact kit_str_dict | exact kit_list_int | exact kit_list_bool | exact kit_list_str | exact kit_list_list | exact kit_list_tuple | exact kit_list_dict | exact kit_tuple_int | exact kit_tuple_bool | exact kit_tuple_str | exact kit_tuple_list | exact kit_tuple_tuple | exact kit_tuple_dict | exact kit_dict_int | exact kit_dict_bool | exact kit_dict_str | exact kit_dict_list | exact kit_dict_tuple | exact kit_dict_dict | exact kit_NoneType_int | exact kit_NoneType_bool | exact kit_NoneType_str | exact kit_NoneType_list | exact kit_NoneType_tuple | exact kit_NoneType_dict)
local macro_rules | `(tactic| walk_at "kitA") => `(tactic| first | assumption | exact kitA_lt_int | exact kitA_lt_bool | exact kitA_lt_str | exact kitA_lt_list | exact kitA_lt_tuple | exact kitA_lt_dict | exact kitA_lt_NoneType | exact kitA_bilt_int | exact kitA_bilt_bool | exact kitA_bilt_str | exact kitA_bilt_list | exact kitA_bilt_tuple | exact kitA_bilt_dict | exact kitA_bilt_NoneType)
local macro_rules | `(tactic| walk_at "ty") => `(tactic| first | exact .base (.int _) | exact .base (.bl _) | exact .base (.str _) | exact .base .non | exact .base (.lst (Stt.get (by assumption) (by walk_at "mem"))) | exact .base (.tup (Stt.get (by assumption) (by walk_at "mem"))) | exact .base (.dK (Stt.get (by assumption) (by walk_at "mem"))) | exact sqL_ty (Stt.upL (by assumption) (by assumption)) | exact sqT_ty (Stt.upT (by assumption) (by assumption)) | exact InsT.ty (by assumption) (Stt.get (by assumption) (by walk_at "mem")) | assumption)
local macro_rules | `(tactic| walk_at "rd1") => `(tactic| first
  | with_reducible refine' Rd.seq ?_
  | with_reducible refine' Rd.asg ?_
  | ((with_reducible refine' Rd.var ?vh ?_); (case vh => exact rfl))
  | with_reducible refine' Rd.con ?_
  | with_reducible refine' Rd.op ?_
  | with_reducible refine' Rd.i0 ?_
  | ((with_reducible refine' Rd.ic ?vh ?_); (case vh => walk_at "cnd"))
  | ((with_reducible refine' Rd.ixL ?v1 ?v2 ?v3 ?_); (case v1 => assumption); (case v2 => walk_at "mem"); (case v3 => walk_at "at"))
  | ((with_reducible refine' Rd.ixT ?v1 ?v2 ?v3 ?_); (case v1 => assumption); (case v2 => walk_at "mem"); (case v3 => walk_at "at"))
  | ((with_reducible refine' Rd.ixD2 ?v1 ?v2 ?_); (case v1 => assumption); (case v2 => walk_at "mem"); intro _)
  | ((with_reducible refine' Rd.ixD3 ?v1 ?v2 ?_); (case v1 => assumption); (case v2 => walk_at "mem"); intro _)
  | ((with_reducible refine' Rd.setD2 ?v1 ?v2 ?v3 ?v4 ?_); (case v1 => assumption); (case v2 => walk_at "mem"); (case v3 => walk_at "put"); (case v4 => walk_at "own"); intro _ _)
  | ((with_reducible refine' Rd.isi ?v1 ?v2 ?v3 ?_); (case v1 => walk_at "ty"); (case v2 => first | exact ClsV.ty _ | exact ClsV.own _); (case v3 => walk_at "kit"))
  | with_reducible refine' Rd.fld ?_
  | ((with_reducible refine' Rd.fldI ?v1 ?v2 ?v3 ?v4 ?v5 ?_); (case v1 => assumption); (case v2 => walk_at "mem"); (case v3 => assumption); (case v4 => assumption); (case v5 => walk_at "at"))
  | with_reducible refine' Rd.sfld ?_
  | ((with_reducible refine' Rd.sfldI ?v1 ?v2 ?v3 ?v4 ?v5 ?v6 ?v7 ?_); (case v1 => assumption); (case v2 => walk_at "mem"); (case v3 => assumption); (case v4 => assumption); (case v5 => first | decide | (refine Nat.lt_of_le_of_lt (putF_len _ _ _) ?_; decide)); (case v6 => walk_at "put"); (case v7 => walk_at "own"); intro _ _)
  | with_reducible refine' Rd.make ?_
  | with_reducible refine' Rd.gcd ?_
  | with_reducible refine' Rd.cons ?_
  | with_reducible refine' Rd.nil ?_
  | with_reducible refine' Rd.cb ?_
  | with_reducible refine' Rd.intI ?_
  | with_reducible refine' Rd.absI ?_
  | ((with_reducible refine' Rd.lenL ?v1 ?v2 ?_); (case v1 => assumption); (case v2 => walk_at "mem"))
  | ((with_reducible refine' Rd.lenT ?v1 ?v2 ?_); (case v1 => assumption); (case v2 => walk_at "mem"))
  | ((with_reducible refine' Rd.lenBL ?v1 ?v2 ?v3 ?_); (case v1 => assumption); (case v2 => assumption); (case v3 => first | exact List.not_mem_nil | assumption))
  | ((with_reducible refine' Rd.lenBT ?v1 ?v2 ?v3 ?_); (case v1 => assumption); (case v2 => assumption); (case v3 => first | exact List.not_mem_nil | assumption))
  | ((with_reducible refine' Rd.ixBL ?v1 ?v2 ?v4 ?v3 ?_); (case v1 => assumption); (case v2 => assumption); (case v4 => first | exact List.not_mem_nil | assumption); (case v3 => walk_at "at"))
  | ((with_reducible refine' Rd.ixBT ?v1 ?v2 ?v4 ?v3 ?_); (case v1 => assumption); (case v2 => assumption); (case v4 => first | exact List.not_mem_nil | assumption); (case v3 => walk_at "at"))
  | ((with_reducible refine' Rd.brI ?vh ?_); (case vh => with_reducible exact rfl))
  | with_reducible refine' Rd.ifS ?_
  | with_reducible refine' Rd.test ?_
  | with_reducible refine' Rd.tbl ?_
  | with_reducible refine' Rd.bl ?_
  | with_reducible refine' Rd.brTT ?_
  | with_reducible refine' Rd.brFF ?_
  | with_reducible refine' Rd.brN ?_
  | ((with_reducible refine' Rd.aug ?vh ?_); (case vh => exact rfl))
  | with_reducible refine' Rd.ipI ?_
  | with_reducible refine' Rd.blV ?_
  | with_reducible refine' Rd.notVL ?_
  | with_reducible refine' Rd.andT ?_
  | with_reducible refine' Rd.orT ?_
  | with_reducible refine' Rd.notT ?_
  | with_reducible refine' Rd.andV ?_
  | with_reducible refine' Rd.orV ?_
  | with_reducible refine' Rd.notV ?_
  | with_reducible refine' Rd.ifE ?_
  | ((with_reducible refine' Rd.eqS ?vh ?_); (case vh => exact rfl))
  | ((with_reducible refine' Rd.neS ?vh ?_); (case vh => exact rfl))
  | with_reducible refine' Rd.par ?_
  | with_reducible refine' Rd.parL ?_
  | with_reducible refine' Rd.un ?_
  | with_reducible refine' Rd.u1 ?_
  | with_reducible refine' Rd.sub ?_
  | ((with_reducible refine' Rd.setL ?v1 ?v2 ?v3 ?v4 ?v5 ?_); (case v1 => assumption); (case v2 => walk_at "mem"); (case v3 => walk_at "at"); (case v4 => walk_at "put"); (case v5 => walk_at "own"); intro _ _)
  | with_reducible refine' Rd.tup ?_
  | with_reducible refine' Rd.lst ?_
  | ((with_reducible refine' Rd.tupN ?v1 ?v2 ?_); (case v1 => assumption); (case v2 => simp only [List.length_cons, List.length_nil]; decide); intro _ _ _ _)
  | ((with_reducible refine' Rd.lstN ?v1 ?v2 ?_); (case v1 => assumption); (case v2 => simp only [List.length_cons, List.length_nil]; decide); intro _ _ _ _)
  | with_reducible refine' Rd.ret ?_
  | with_reducible refine' Rd.drop ?_
  | with_reducible refine' Rd.retN ?_
  | with_reducible refine' Rd.next ?_
  | with_reducible refine' Rd.brk ?_
  | with_reducible refine' Rd.cont ?_
  | with_reducible refine' Rd.call ?_
  | walk_at "ask"
  | with_reducible refine' Rd.bm ?_
  | ((with_reducible refine' Rd.bmL ?v1 ?v2 ?_); (case v1 => assumption); (case v2 => walk_at "mem"))
  | ((with_reducible refine' Rd.app ?v1 ?v2 ?v3 ?v4 ?v5 ?_); (case v1 => assumption); (case v2 => walk_at "mem"); (case v3 => simp only [List.length_cons, List.length_nil, List.length_append]; omega); (case v4 => walk_at "put"); (case v5 => walk_at "own"); intro _ _)
  | with_reducible refine' Rd.asgT ?_
  | ((with_reducible refine' Rd.gtup ?v1 ?v2 ?v3 ?_); (case v1 => assumption); (case v2 => walk_at "mem"); (case v3 => exact rfl))
  | with_reducible refine' Rd.gcons ?_
  | with_reducible refine' Rd.gname ?_
  | with_reducible refine' Rd.gnil ?_
  | with_reducible refine' Rd.sl ?_
  | with_reducible refine' Rd.noPart ?_
  | with_reducible refine' Rd.part ?_
  | with_reducible refine' Rd.prt ?_
  | with_reducible refine' Rd.isB ?_
  | ((with_reducible refine' Rd.wp ?vh ?_); (case vh => exact rfl))
  | with_reducible refine' Rd.makeK ?_
  | with_reducible refine' Rd.meth ?_
  | ((with_reducible refine' Rd.catL ?v1 ?v2 ?v3 ?v4 ?_); (case v1 => assumption); (case v2 => walk_at "mem"); (case v3 => walk_at "mem"); (case v4 => simp only [List.length_cons, List.length_nil, List.length_append]; omega); intro _ _ _ _)
  | with_reducible refine' Rd.dnew ?_
  | ((with_reducible refine' Rd.dnewL ?v1 ?_); (case v1 => assumption); intro _ _ _ _)
  | with_reducible refine' Rd.lc ?_
  | with_reducible refine' Rd.wZ ?_
  | with_reducible refine' Rd.tYesH ?_
  | with_reducible refine' Rd.fmt ?_
  | with_reducible refine' Rd.joined ?_
  | with_reducible refine' Rd.jsNil ?_
  | with_reducible refine' Rd.jsCons ?_
  | ((with_reducible refine' Rd.isiT ?v1 ?v2 ?v3 ?v4 ?v5 ?_); (case v1 => assumption); (case v2 => walk_at "mem"); (case v3 => walk_at "ty"); (case v4 => first | exact .cons (.ty _) (.cons (.ty _) .nil) | exact .cons (.ty _) (.cons (.ty _) (.cons (.ty _) (.cons (.ty _) .nil))) | exact .cons (.ty _) (.cons (.ty _) (.cons (.ty _) .nil))); (case v5 => walk_at "kitA"))
  | with_reducible refine' Rd.forS ?_
  | with_reducible refine' Rd.wEnT ?_
  | ((with_reducible refine' Rd.wEnTL ?v1 ?v2 ?_); (case v1 => assumption); (case v2 => walk_at "mem"))
  | with_reducible refine' Rd.wL ?_
  | ((with_reducible refine' Rd.wLL ?v1 ?v2 ?_); (case v1 => assumption); (case v2 => walk_at "mem"))
  | with_reducible refine' Rd.wT ?_
  | ((with_reducible refine' Rd.wTL ?v1 ?v2 ?_); (case v1 => assumption); (case v2 => walk_at "mem"))
  | with_reducible refine' Rd.wR1 ?_
  | ((with_reducible refine' Rd.wR1L ?v1 ?v2 ?_); (case v1 => omega); (case v2 => omega))
  | with_reducible refine' Rd.wR2 ?_
  | ((with_reducible refine' Rd.wR2L ?v1 ?_); (case v1 => omega)))
local macro_rules | `(tactic| walk_at "rd") => `(tactic| repeat (walk_at "rd1"))

local macro_rules | `(tactic| walk_at "ask") => `(tactic| ((with_reducible refine' fill_ask ?v1 ?v2 ?v3 ?v4 ?v5 ?_); (case v1 => assumption); (case v2 => walk_at "mem"); (case v3 => walk_at "mem"); (case v4 => assumption); (case v5 => walk_at "own"); intro _ _))

local macro_rules | `(tactic| walk_at "ask") => `(tactic| ((with_reducible refine' take_ask ?v1 ?v2 ?v3 ?v4 ?v5 ?v6 ?_); (case v1 => assumption); (case v2 => walk_at "mem"); (case v3 => walk_at "mem"); (case v4 => assumption); (case v5 => walk_at "own"); (case v6 => first | decide | omega); intro _ _ _ _))
local macro_rules | `(tactic| walk_at "ask") => `(tactic| ((with_reducible refine' one_ask ?v1 ?v2 ?v3 ?v4 ?v5 ?_); (case v1 => assumption); (case v2 => walk_at "subl"); (case v3 => assumption); (case v4 => walk_at "own"); (case v5 => simp only [List.length_append, List.length_cons, List.length_nil]; decide); intro _ _ _ _))
local macro_rules | `(tactic| walk_at "ask") => `(tactic| ((with_reducible refine' fig_ask ?v1 ?v2 ?v3 ?v4 ?_); (case v1 => assumption); (case v2 => walk_at "subl"); (case v3 => assumption); (case v4 => walk_at "own"); intro _ _ _ _))
local macro_rules | `(tactic| walk_at "ask") => `(tactic| ((with_reducible refine' low_ask ?v1 ?v2 ?v3 ?v4 ?_); (case v1 => assumption); (case v2 => first | assumption | omega); (case v3 => omega); (case v4 => omega); intro _ _ _ _))
local macro_rules | `(tactic| walk_at "ask") => `(tactic| ((with_reducible refine' frac_ask ?v1 ?v2 ?v3 ?v4 ?_); (case v1 => assumption); (case v2 => walk_at "subl"); (case v3 => assumption); (case v4 => walk_at "own"); intro _ _ _ _ _ _ _))

local macro_rules | `(tactic| walk_at "ask") => `(tactic| with_reducible refine' isI_int ?_)
local macro_rules | `(tactic| walk_at "ask") => `(tactic| ((with_reducible refine' mk_span ?v1 ?v2 ?v3 ?_); (case v1 => assumption); (case v2 => first | assumption | omega); (case v3 => first | assumption | omega); intro _ _ _ _))
local macro_rules | `(tactic| walk_at "ask") => `(tactic| ((with_reducible refine' mk_span1 ?v1 ?_); (case v1 => assumption); intro _ _ _ _))
local macro_rules | `(tactic| walk_at "ask") => `(tactic| ((with_reducible refine' fld_over ?v1 ?v2 ?v3 ?v4 ?_); (case v1 => assumption); (case v2 => assumption); (case v3 => assumption); (case v4 => walk_at "mem")))
local macro_rules | `(tactic| walk_at "ask") => `(tactic| ((with_reducible refine' fld_under ?v1 ?v2 ?v3 ?v4 ?_); (case v1 => assumption); (case v2 => assumption); (case v3 => assumption); (case v4 => walk_at "mem")))
local macro_rules | `(tactic| walk_at "ty") => `(tactic| exact span_ty (by assumption) (by assumption) (by walk_at "mem"))

section
variable {P : Program} {w : World} {K : PySem.W.Frag} {mg : Str → Option Value} {base : Heap}
theorem two_of {vs : List V} (h : vs.length = 2) : ∃ x y, vs = [x, y] := by
  match vs, h with
  | [x, y], _ => exact ⟨x, y, rfl⟩
def swp (sp : Sp) : Sp := fun vs H Q E => ∃ x y, vs = [y, x] ∧ sp [x, y] H Q E
def spquotientC (K : PySem.W.Frag) : Sp := spQuoC K
def spremainderC (K : PySem.W.Frag) : Sp := spRemC K
theorem ok_Span_addC (T : Txt K mg) : FnOk P w K mg base (L2.CX P w) 6 (He.fAd K ("Span", some "__add__")) T.fd_Span_add ["self", "other"] (spsumC K) := by
  refine T.F_Span_add.ok sc_Span_add (fun vs H Q E h => (ok_sumC (P := P) (w := w) (base := base) T).len vs H Q E h) (fun cdv A outer s H vs Q E hr h => ?_)
  · obtain ⟨x, y, rfl⟩ := two_of ((ok_sumC (P := P) (w := w) (base := base) T).len vs H Q E h)
    refine ⟨_, (pss_one (ps_ret (pe_call (ok_sumC T) (hr.mono (by decide)) rfl T.g_sum T.F_sum.kp T.b_sum .nil (passes_call (takes_of rfl rfl rfl rfl) (fun _ _ _ _ h => h)) (pa_cons (pv 0) (pa_cons (pv 1) pa_nil))))), ?_⟩
    walk_at "k"
    walk_at "rd"
    exact h
theorem ok_Span_raddC (T : Txt K mg) : FnOk P w K mg base (L2.CX P w) 6 (He.fAd K ("Span", some "__radd__")) T.fd_Span_radd ["self", "other"] (swp (spsumC K)) := by
  refine T.F_Span_radd.ok sc_Span_radd (fun vs H Q E h => ?_) (fun cdv A outer s H vs Q E hr h => ?_)
  · obtain ⟨x, y, rfl, _⟩ := h
    rfl
  · obtain ⟨x, y, rfl, h⟩ := h
    refine ⟨_, (pss_one (ps_ret (pe_call (ok_sumC T) (hr.mono (by decide)) rfl T.g_sum T.F_sum.kp T.b_sum .nil (passes_call (takes_of rfl rfl rfl rfl) (fun _ _ _ _ h => h)) (pa_cons (pv 1) (pa_cons (pv 0) pa_nil))))), ?_⟩
    walk_at "k"
    walk_at "rd"
    exact h
theorem ok_Span_subC (T : Txt K mg) : FnOk P w K mg base (L2.CX P w) 6 (He.fAd K ("Span", some "__sub__")) T.fd_Span_sub ["self", "other"] (spdifferenceC K) := by
  refine T.F_Span_sub.ok sc_Span_sub (fun vs H Q E h => (ok_differenceC (P := P) (w := w) (base := base) T).len vs H Q E h) (fun cdv A outer s H vs Q E hr h => ?_)
  · obtain ⟨x, y, rfl⟩ := two_of ((ok_differenceC (P := P) (w := w) (base := base) T).len vs H Q E h)
    refine ⟨_, (pss_one (ps_ret (pe_call (ok_differenceC T) (hr.mono (by decide)) rfl T.g_difference T.F_difference.kp T.b_difference .nil (passes_call (takes_of rfl rfl rfl rfl) (fun _ _ _ _ h => h)) (pa_cons (pv 0) (pa_cons (pv 1) pa_nil))))), ?_⟩
    walk_at "k"
    walk_at "rd"
    exact h
theorem ok_Span_rsubC (T : Txt K mg) : FnOk P w K mg base (L2.CX P w) 6 (He.fAd K ("Span", some "__rsub__")) T.fd_Span_rsub ["self", "other"] (swp (spdifferenceC K)) := by
  refine T.F_Span_rsub.ok sc_Span_rsub (fun vs H Q E h => ?_) (fun cdv A outer s H vs Q E hr h => ?_)
  · obtain ⟨x, y, rfl, _⟩ := h
    rfl
  · obtain ⟨x, y, rfl, h⟩ := h
    refine ⟨_, (pss_one (ps_ret (pe_call (ok_differenceC T) (hr.mono (by decide)) rfl T.g_difference T.F_difference.kp T.b_difference .nil (passes_call (takes_of rfl rfl rfl rfl) (fun _ _ _ _ h => h)) (pa_cons (pv 1) (pa_cons (pv 0) pa_nil))))), ?_⟩
    walk_at "k"
    walk_at "rd"
    exact h
theorem ok_Span_mulC (T : Txt K mg) : FnOk P w K mg base (L2.CX P w) 6 (He.fAd K ("Span", some "__mul__")) T.fd_Span_mul ["self", "other"] (spproductC K) := by
  refine T.F_Span_mul.ok sc_Span_mul (fun vs H Q E h => (ok_productC (P := P) (w := w) (base := base) T).len vs H Q E h) (fun cdv A outer s H vs Q E hr h => ?_)
  · obtain ⟨x, y, rfl⟩ := two_of ((ok_productC (P := P) (w := w) (base := base) T).len vs H Q E h)
    refine ⟨_, (pss_one (ps_ret (pe_call (ok_productC T) (hr.mono (by decide)) rfl T.g_product T.F_product.kp T.b_product .nil (passes_call (takes_of rfl rfl rfl rfl) (fun _ _ _ _ h => h)) (pa_cons (pv 0) (pa_cons (pv 1) pa_nil))))), ?_⟩
    walk_at "k"
    walk_at "rd"
    exact h
theorem ok_Span_rmulC (T : Txt K mg) : FnOk P w K mg base (L2.CX P w) 6 (He.fAd K ("Span", some "__rmul__")) T.fd_Span_rmul ["self", "other"] (swp (spproductC K)) := by
  refine T.F_Span_rmul.ok sc_Span_rmul (fun vs H Q E h => ?_) (fun cdv A outer s H vs Q E hr h => ?_)
  · obtain ⟨x, y, rfl, _⟩ := h
    rfl
  · obtain ⟨x, y, rfl, h⟩ := h
    refine ⟨_, (pss_one (ps_ret (pe_call (ok_productC T) (hr.mono (by decide)) rfl T.g_product T.F_product.kp T.b_product .nil (passes_call (takes_of rfl rfl rfl rfl) (fun _ _ _ _ h => h)) (pa_cons (pv 1) (pa_cons (pv 0) pa_nil))))), ?_⟩
    walk_at "k"
    walk_at "rd"
    exact h
theorem ok_Span_floordivC (T : Txt K mg) : FnOk P w K mg base (L2.CX P w) 5 (He.fAd K ("Span", some "__floordiv__")) T.fd_Span_floordiv ["self", "other"] (spquotientC K) := by
  refine T.F_Span_floordiv.ok sc_Span_floordiv (fun vs H Q E h => (ok_quotientC (P := P) (w := w) (base := base) T).len vs H Q E h) (fun cdv A outer s H vs Q E hr h => ?_)
  · obtain ⟨x, y, rfl⟩ := two_of ((ok_quotientC (P := P) (w := w) (base := base) T).len vs H Q E h)
    refine ⟨_, (pss_one (ps_ret (pe_call (ok_quotientC T) (hr.mono (by decide)) rfl T.g_quotient T.F_quotient.kp T.b_quotient .nil (passes_call (takes_of rfl rfl rfl rfl) (fun _ _ _ _ h => h)) (pa_cons (pv 0) (pa_cons (pv 1) pa_nil))))), ?_⟩
    walk_at "k"
    walk_at "rd"
    exact h
theorem ok_Span_rfloordivC (T : Txt K mg) : FnOk P w K mg base (L2.CX P w) 5 (He.fAd K ("Span", some "__rfloordiv__")) T.fd_Span_rfloordiv ["self", "other"] (swp (spquotientC K)) := by
  refine T.F_Span_rfloordiv.ok sc_Span_rfloordiv (fun vs H Q E h => ?_) (fun cdv A outer s H vs Q E hr h => ?_)
  · obtain ⟨x, y, rfl, _⟩ := h
    rfl
  · obtain ⟨x, y, rfl, h⟩ := h
    refine ⟨_, (pss_one (ps_ret (pe_call (ok_quotientC T) (hr.mono (by decide)) rfl T.g_quotient T.F_quotient.kp T.b_quotient .nil (passes_call (takes_of rfl rfl rfl rfl) (fun _ _ _ _ h => h)) (pa_cons (pv 1) (pa_cons (pv 0) pa_nil))))), ?_⟩
    walk_at "k"
    walk_at "rd"
    exact h
theorem ok_Span_modC (T : Txt K mg) : FnOk P w K mg base (L2.CX P w) 6 (He.fAd K ("Span", some "__mod__")) T.fd_Span_mod ["self", "other"] (spremainderC K) := by
  refine T.F_Span_mod.ok sc_Span_mod (fun vs H Q E h => (ok_remainderC (P := P) (w := w) (base := base) T).len vs H Q E h) (fun cdv A outer s H vs Q E hr h => ?_)
  · obtain ⟨x, y, rfl⟩ := two_of ((ok_remainderC (P := P) (w := w) (base := base) T).len vs H Q E h)
    refine ⟨_, (pss_one (ps_ret (pe_call (ok_remainderC T) (hr.mono (by decide)) rfl T.g_remainder T.F_remainder.kp T.b_remainder .nil (passes_call (takes_of rfl rfl rfl rfl) (fun _ _ _ _ h => h)) (pa_cons (pv 0) (pa_cons (pv 1) pa_nil))))), ?_⟩
    walk_at "k"
    walk_at "rd"
    exact h
theorem ok_Span_rmodC (T : Txt K mg) : FnOk P w K mg base (L2.CX P w) 6 (He.fAd K ("Span", some "__rmod__")) T.fd_Span_rmod ["self", "other"] (swp (spremainderC K)) := by
  refine T.F_Span_rmod.ok sc_Span_rmod (fun vs H Q E h => ?_) (fun cdv A outer s H vs Q E hr h => ?_)
  · obtain ⟨x, y, rfl, _⟩ := h
    rfl
  · obtain ⟨x, y, rfl, h⟩ := h
    refine ⟨_, (pss_one (ps_ret (pe_call (ok_remainderC T) (hr.mono (by decide)) rfl T.g_remainder T.F_remainder.kp T.b_remainder .nil (passes_call (takes_of rfl rfl rfl rfl) (fun _ _ _ _ h => h)) (pa_cons (pv 1) (pa_cons (pv 0) pa_nil))))), ?_⟩
    walk_at "k"
    walk_at "rd"
    exact h
theorem gapC_mono {vs : List V} {H : Hp} {Q Q' : VK} {E : XK} (h : spgapC K vs H Q E) (k : ∀ v H', Q v H' → Q' v H') : spgapC K vs H Q' E := by
  rcases h with ⟨x, y, a, b, c, d, e, hx, hy, hb, q⟩ | h
  · exact .inl ⟨x, y, a, b, c, d, e, hx, hy, hb, fun H' kp => k _ _ (q H' kp)⟩
  · exact .inr h
def spCmpC (K : PySem.W.Frag) : Sp := fun vs H Q E => spgapC K vs H (fun v H' => ∃ z, v = .int z ∧ ∀ b, Q (.bl b) H') E
theorem ok_Span_ltC (T : Txt K mg) : FnOk P w K mg base (L2.CX P w) 5 (He.fAd K ("Span", some "__lt__")) T.fd_Span_lt ["self", "other"] (spCmpC K) := by
  refine T.F_Span_lt.ok sc_Span_lt (fun vs H Q E h => (ok_gapC (P := P) (w := w) (base := base) T).len vs H _ E h) (fun cdv A outer s H vs Q E hr h => ?_)
  · obtain ⟨x, y, rfl⟩ := two_of ((ok_gapC (P := P) (w := w) (base := base) T).len vs H _ E h)
    refine ⟨_, (pss_one (ps_ret (pe_cmpR op_lt (pe_call (ok_gapC T) (hr.mono (by decide)) rfl T.g_gap T.F_gap.kp T.b_gap .nil (passes_call (takes_of rfl rfl rfl rfl) (fun _ _ _ _ h => h)) (pa_cons (pv 0) (pa_cons (pv 1) pa_nil))) pe_int (nomark _)))), ?_⟩
    walk_at "k"
    walk_at "rd"
    refine gapC_mono h fun v H' hv => ?_
    obtain ⟨z, rfl, q⟩ := hv
    walk_at "rd"
    exact q _
theorem ok_Span_leC (T : Txt K mg) : FnOk P w K mg base (L2.CX P w) 5 (He.fAd K ("Span", some "__le__")) T.fd_Span_le ["self", "other"] (spCmpC K) := by
  refine T.F_Span_le.ok sc_Span_le (fun vs H Q E h => (ok_gapC (P := P) (w := w) (base := base) T).len vs H _ E h) (fun cdv A outer s H vs Q E hr h => ?_)
  · obtain ⟨x, y, rfl⟩ := two_of ((ok_gapC (P := P) (w := w) (base := base) T).len vs H _ E h)
    refine ⟨_, (pss_one (ps_ret (pe_cmpR op_le (pe_call (ok_gapC T) (hr.mono (by decide)) rfl T.g_gap T.F_gap.kp T.b_gap .nil (passes_call (takes_of rfl rfl rfl rfl) (fun _ _ _ _ h => h)) (pa_cons (pv 0) (pa_cons (pv 1) pa_nil))) pe_int (nomark _)))), ?_⟩
    walk_at "k"
    walk_at "rd"
    refine gapC_mono h fun v H' hv => ?_
    obtain ⟨z, rfl, q⟩ := hv
    walk_at "rd"
    exact q _
theorem ok_Span_gtC (T : Txt K mg) : FnOk P w K mg base (L2.CX P w) 5 (He.fAd K ("Span", some "__gt__")) T.fd_Span_gt ["self", "other"] (spCmpC K) := by
  refine T.F_Span_gt.ok sc_Span_gt (fun vs H Q E h => (ok_gapC (P := P) (w := w) (base := base) T).len vs H _ E h) (fun cdv A outer s H vs Q E hr h => ?_)
  · obtain ⟨x, y, rfl⟩ := two_of ((ok_gapC (P := P) (w := w) (base := base) T).len vs H _ E h)
    refine ⟨_, (pss_one (ps_ret (pe_cmpR op_gt (pe_call (ok_gapC T) (hr.mono (by decide)) rfl T.g_gap T.F_gap.kp T.b_gap .nil (passes_call (takes_of rfl rfl rfl rfl) (fun _ _ _ _ h => h)) (pa_cons (pv 0) (pa_cons (pv 1) pa_nil))) pe_int (nomark _)))), ?_⟩
    walk_at "k"
    walk_at "rd"
    refine gapC_mono h fun v H' hv => ?_
    obtain ⟨z, rfl, q⟩ := hv
    walk_at "rd"
    exact q _
theorem ok_Span_geC (T : Txt K mg) : FnOk P w K mg base (L2.CX P w) 5 (He.fAd K ("Span", some "__ge__")) T.fd_Span_ge ["self", "other"] (spCmpC K) := by
  refine T.F_Span_ge.ok sc_Span_ge (fun vs H Q E h => (ok_gapC (P := P) (w := w) (base := base) T).len vs H _ E h) (fun cdv A outer s H vs Q E hr h => ?_)
  · obtain ⟨x, y, rfl⟩ := two_of ((ok_gapC (P := P) (w := w) (base := base) T).len vs H _ E h)
    refine ⟨_, (pss_one (ps_ret (pe_cmpR op_ge (pe_call (ok_gapC T) (hr.mono (by decide)) rfl T.g_gap T.F_gap.kp T.b_gap .nil (passes_call (takes_of rfl rfl rfl rfl) (fun _ _ _ _ h => h)) (pa_cons (pv 0) (pa_cons (pv 1) pa_nil))) pe_int (nomark _)))), ?_⟩
    walk_at "k"
    walk_at "rd"
    refine gapC_mono h fun v H' hv => ?_
    obtain ⟨z, rfl, q⟩ := hv
    walk_at "rd"
    exact q _
def spRef1 (K : PySem.W.Frag) : Sp := fun vs H _ E => ∃ v, vs = [v] ∧ IsOth v H ∧ ∀ cls d H', XP K v H cls d H' → E cls d H'
theorem ok_flooredR (T : Txt K mg) : FnOk P w K mg base (L2.CX P w) 4 (He.fAd K ("floored", none)) T.fd_floored ["number"] (spRef1 K) := by
  refine T.F_floored.ok sc_floored (fun vs H Q E h => ?_) (fun cdv A outer s H vs Q E hr h => ?_)
  · obtain ⟨v, rfl, _⟩ := h
    rfl
  · obtain ⟨v, rfl, hv, k⟩ := h
    refine ⟨_, (pss_cons (ps_asg (pe_call (ok_halvesC T) (hr.mono (by decide)) rfl T.g_halves T.F_halves.kp T.b_halves .nil (passes_call (takes_of rfl rfl rfl rfl) (fun _ _ _ _ h => h)) (pa_cons (pv 0) pa_nil)) (pg_tup (by rfl) (pgs_cons (pg_name (i := 1) sc_floored.nd rfl (by first | exact Or.inl rfl | exact Or.inr rfl)) (pgs_cons (pg_name (i := 2) sc_floored.nd rfl (by first | exact Or.inl rfl | exact Or.inr rfl)) pgs_nil))))
  (pss_one (ps_ret (pe_op op_fdivZ (pv 1) (pv 2))))), ?_⟩
    walk_at "k"
    walk_at "rd"
    exact halvesC_oth T hv k
theorem ok_plainR (T : Txt K mg) : FnOk P w K mg base (L2.CX P w) 4 (He.fAd K ("plain", none)) T.fd_plain ["number"] (spRef1 K) := by
  refine T.F_plain.ok sc_plain (fun vs H Q E h => ?_) (fun cdv A outer s H vs Q E hr h => ?_)
  · obtain ⟨v, rfl, _⟩ := h
    rfl
  · obtain ⟨v, rfl, hv, k⟩ := h
    refine ⟨_, (pss_cons (ps_asg (pe_call (ok_halvesC T) (hr.mono (by decide)) rfl T.g_halves T.F_halves.kp T.b_halves .nil (passes_call (takes_of rfl rfl rfl rfl) (fun _ _ _ _ h => h)) (pa_cons (pv 0) pa_nil)) (pg_tup (by rfl) (pgs_cons (pg_name (i := 1) sc_plain.nd rfl (by first | exact Or.inl rfl | exact Or.inr rfl)) (pgs_cons (pg_name (i := 2) sc_plain.nd rfl (by first | exact Or.inl rfl | exact Or.inr rfl)) pgs_nil))))
  (pss_cons (ps_if (pt_cmpR op_eq (pv 2) pe_int (nomark _)) (pss_one (ps_ret (pv 1)))
   pss_nil)
  (pss_one (ps_ret (pv 0))))), ?_⟩
    walk_at "k"
    walk_at "rd"
    exact halvesC_oth T hv k
/-- Span(x, y) that is refused -/
def spInitR (K : PySem.W.Frag) : Sp := fun vs H _ E => ∃ p x y v, vs = [.ref p, x, y] ∧ (((∃ sp, NoInt K H x sp) ∧ v = x) ∨ (∃ a, x = .int a ∧ ((∃ sp, NoInt K H y sp) ∨ y = .int 0) ∧ v = y)) ∧ ∀ cls d H', XP K v H cls d H' → E cls d H'
theorem noI_ask {H : Hp} {v : V} {Q : VK} {E : XK} (h : ∃ sp, NoInt K H v sp) (k : Q (.bl false) H) : spIsI K ([v] ++ []) H Q E := by
  obtain ⟨sp, t, b, c, ty, q1, q2, q3, q4⟩ := h
  refine ⟨v, t, b, c, rfl, ty, q2, q3, ?_⟩
  rw [q4]
  exact k
theorem ok_Span_initR (T : Txt K mg) : FnOk P w K mg base (L2.CX P w) 3 (He.fAd K ("Span", some "__init__")) T.fd_Span_init ["self", "over", "under"] (spInitR K) := by
  refine T.F_Span_init.ok sc_Span_init (fun vs H Q E h => ?_) (fun cdv A outer s H vs Q E hr h => ?_)
  · obtain ⟨p, x, y, v, rfl, _⟩ := h
    rfl
  · obtain ⟨p, x, y, v, rfl, h, k⟩ := h
    refine ⟨_, (pss_cons (ps_if (pt_not (pt_val (pe_call (ok_is_integer T) (hr.mono (by decide)) rfl T.g_is_integer T.F_is_integer.kp T.b_is_integer .nil pass0 (pa_cons (pv 1) pa_nil)))) (pss_one (ps_raise rfl (takes_of rfl rfl rfl rfl) (pmk_oex T.x_BadPart.oex T.x_BadPart.iC T.x_BadPart.tI (ok_BadPart_init T) (hr.mono (by decide)) T.b_BadPart_init .nil pass0 rfl T.g_BadPart (pa_cons (pv 1) pa_nil))))
   pss_nil)
  (pss_cons (ps_if (PW.pt (pw_or (pt_not (pt_val (pe_call (ok_is_integer T) (hr.mono (by decide)) rfl T.g_is_integer T.F_is_integer.kp T.b_is_integer .nil pass0 (pa_cons (pv 2) pa_nil)))) (pw_or1 (pt_cmpR op_eq (pv 2) pe_int (nomark _))))) (pss_one (ps_raise rfl (takes_of rfl rfl rfl rfl) (pmk_oex T.x_BadPart.oex T.x_BadPart.iC T.x_BadPart.tI (ok_BadPart_init T) (hr.mono (by decide)) T.b_BadPart_init .nil pass0 rfl T.g_BadPart (pa_cons (pv 2) pa_nil))))
   pss_nil)
  (pss_cons (ps_asg (pe_callBfun cr_gcd rfl T.g_gcd (pa_cons (pv 1) (pa_cons (pv 2) pa_nil))) (pg_name (i := 3) sc_Span_init.nd rfl (by first | exact Or.inl rfl | exact Or.inr rfl)))
  (pss_cons (ps_if (pt_cmpR op_lt (pv 2) pe_int (nomark _)) (pss_one (ps_asg (pe_un un_neg (pv 3)) (pg_name (i := 3) sc_Span_init.nd rfl (by first | exact Or.inl rfl | exact Or.inr rfl))))
   pss_nil)
  (pss_cons (ps_fld (pv 0) (pe_op op_fdivZ (pv 1) (pv 3)) rfl)
  (pss_one (ps_fld (pv 0) (pe_op op_fdivZ (pv 2) (pv 3)) rfl))))))), ?_⟩
    walk_at "k"
    have s0 : Stt H [] [] H := Stt.nil
    rcases h with ⟨hx, rfl⟩ | ⟨a, rfl, hy | rfl, rfl⟩
    · walk_at "rd"
      refine noI_ask hx ?_
      walk_at "rd"
      exact badP rfl k
    · walk_at "rd"
      refine noI_ask hy ?_
      walk_at "rd"
      exact badP rfl k
    · walk_at "rd"
      exact badP rfl k
def spInitC (K : PySem.W.Frag) : Sp := fun vs H Q E => spSpanInit K vs H Q E ∨ spInitR K vs H Q E
theorem ok_Span_initC (T : Txt K mg) : FnOk P w K mg base (L2.CX P w) 3 (He.fAd K ("Span", some "__init__")) T.fd_Span_init ["self", "over", "under"] (spInitC K) := fnok_or ((fnok_cx (ok_Span_init T)).mono (by decide)) (ok_Span_initR T)
end

end
section
local macro_rules | `(tactic| walk_at "subl") => `(tactic| first | with_reducible exact List.nil_sublist _ | with_reducible exact List.Sublist.refl _ | (with_reducible refine List.Sublist.cons₂ _ ?_; walk_at "subl") | (with_reducible refine List.Sublist.cons _ ?_; walk_at "subl"))
local macro_rules | `(tactic| walk_at "k") => `(tactic| try dsimp only [L2.cxOf, L2.Cx.nox, L2.Cx.wish, L2.Cx.blk])
local macro_rules | `(tactic| walk_at "ask") => `(tactic| fail)
local macro_rules | `(tactic| walk_at "mem") => `(tactic| first | with_reducible exact List.mem_cons_self | (with_reducible apply List.mem_cons_of_mem; walk_at "mem"))
local macro_rules | `(tactic| walk_at "put") => `(tactic| first | with_reducible exact Lt.Put.head | (with_reducible apply Lt.Put.tail; walk_at "put"))
local macro_rules | `(tactic| walk_at "own") => `(tactic| first | exact Or.inr (by assumption) | exact Or.inl (by walk_at "mem"))
local macro_rules | `(tactic| walk_at "cnd") => `(tactic| first | assumption | decide | ((try dsimp only); omega) | (unfold CMul; omega) | (unfold CDiv; omega) | (unfold CPow; omega) | exact Or.inr (by decide) | exact Or.inl (by decide) | exact wide_div (b := 128) (by omega) (by omega) (by decide) (by decide))
local macro_rules | `(tactic| walk_at "at") => `(tactic| first | exact rfl | assumption)
local macro_rules | `(tactic| walk_at "kit") => `(tactic| first | assumption | exact kit_int_int | exact kit_int_bool | exact kit_int_str | exact kit_int_list | exact kit_int_tuple | exact kit_int_dict | exact kit_bool_int | exact kit_bool_bool | exact kit_bool_str | exact kit_bool_list | exact kit_bool_tuple | exact kit_bool_dict | exact kit_str_int | exact kit_str_bool | exact kit_str_str | exact kit_str_list | exact kit_str_tuple | exact kit_str_dict | exact kit_list_int | exact kit_list_bool | exact kit_list_str | exact kit_list_list | exact kit_list_tuple | exact kit_list_dict | exact kit_tuple_int | exact kit_tuple_bool | exact kit_tuple_str | exact kit_tuple_list | exact kit_tuple_tuple | exact kit_tuple_dict | exact kit_dict_int | exact kit_dict_bool | exact kit_dict_str | exact kit_dict_list | exact kit_dict_tuple | exact kit_dict_dict | exact kit_NoneType_int | exact kit_NoneType_bool | exact kit_NoneType_str | exact kit_NoneType_list | exact kit_NoneType_tuple | exact kit_NoneType_dict)
local macro_rules | `(tactic| walk_at "kitA") => `(tactic| first | assumption | exact kitA_lt_int | exact kitA_lt_bool | exact kitA_lt_str | exact kitA_lt_list | exact kitA_lt_tuple | exact kitA_lt_dict | exact kitA_lt_NoneType | exact kitA_bilt_int | exact kitA_bilt_bool | exact kitA_bilt_str | exact kitA_bilt_list | exact kitA_bilt_tuple | exact kitA_bilt_dict | exact kitA_bilt_NoneType)
local macro_rules | `(tactic| walk_at "ty") => `(tactic| first | exact .base (.int _) | exact .base (.bl _) | exact .base (.str _) | exact .base .non | exact .base (.lst (Stt.get (by assumption) (by walk_at "mem"))) | exact .base (.tup (Stt.get (by assumption) (by walk_at "mem"))) | exact .base (.dK (Stt.get (by assumption) (by walk_at "mem"))) | exact sqL_ty (Stt.upL (by assumption) (by assumption)) | exact sqT_ty (Stt.upT (by assumption) (by assumption)) | exact InsT.ty (by assumption) (Stt.get (by assumption) (by walk_at "mem")) | assumption)
local macro_rules | `(tactic| walk_at "rd1") => `(tactic| first
  | with_reducible refine' Rd.seq ?_
  | with_reducible refine' Rd.asg ?_
  | ((with_reducible refine' Rd.var ?vh ?_); (case vh => exact rfl))
  | with_reducible refine' Rd.con ?_
  | with_reducible refine' Rd.op ?_
  | with_reducible refine' Rd.i0 ?_
  | ((with_reducible refine' Rd.ic ?vh ?_); (case vh => walk_at "cnd"))
  | ((with_reducible refine' Rd.ixL ?v1 ?v2 ?v3 ?_); (case v1 => assumption); (case v2 => walk_at "mem"); (case v3 => walk_at "at"))
  | ((with_reducible refine' Rd.ixT ?v1 ?v2 ?v3 ?_); (case v1 => assumption); (case v2 => walk_at "mem"); (case v3 => walk_at "at"))
  | ((with_reducible refine' Rd.ixD2 ?v1 ?v2 ?_); (case v1 => assumption); (case v2 => walk_at "mem"); intro _)
  | ((with_reducible refine' Rd.ixD3 ?v1 ?v2 ?_); (case v1 => assumption); (case v2 => walk_at "mem"); intro _)
  | ((with_reducible refine' Rd.setD2 ?v1 ?v2 ?v3 ?v4 ?_); (case v1 => assumption); (case v2 => walk_at "mem"); (case v3 => walk_at "put"); (case v4 => walk_at "own"); intro _ _)
  | ((with_reducible refine' Rd.isi ?v1 ?v2 ?v3 ?_); (case v1 => walk_at "ty"); (case v2 => first | exact ClsV.ty _ | exact ClsV.own _); (case v3 => walk_at "kit"))
  | with_reducible refine' Rd.fld ?_
  | ((with_reducible refine' Rd.fldI ?v1 ?v2 ?v3 ?v4 ?v5 ?_); (case v1 => assumption); (case v2 => walk_at "mem"); (case v3 => assumption); (case v4 => assumption); (case v5 => walk_at "at"))
  | with_reducible refine' Rd.sfld ?_
  | ((with_reducible refine' Rd.sfldI ?v1 ?v2 ?v3 ?v4 ?v5 ?v6 ?v7 ?_); (case v1 => assumption); (case v2 => walk_at "mem"); (case v3 => assumption); (case v4 => assumption); (case v5 => first | decide | (refine Nat.lt_of_le_of_lt (putF_len _ _ _) ?_; decide)); (case v6 => walk_at "put"); (case v7 => walk_at "own"); intro _ _)
  | with_reducible refine' Rd.make ?_
  | with_reducible refine' Rd.gcd ?_
  | with_reducible refine' Rd.cons ?_
  | with_reducible refine' Rd.nil ?_
  | with_reducible refine' Rd.cb ?_
  | with_reducible refine' Rd.intI ?_
  | with_reducible refine' Rd.absI ?_
  | ((with_reducible refine' Rd.lenL ?v1 ?v2 ?_); (case v1 => assumption); (case v2 => walk_at "mem"))
  | ((with_reducible refine' Rd.lenT ?v1 ?v2 ?_); (case v1 => assumption); (case v2 => walk_at "mem"))
  | ((with_reducible refine' Rd.lenBL ?v1 ?v2 ?v3 ?_); (case v1 => assumption); (case v2 => assumption); (case v3 => first | exact List.not_mem_nil | assumption))
  | ((with_reducible refine' Rd.lenBT ?v1 ?v2 ?v3 ?_); (case v1 => assumption); (case v2 => assumption); (case v3 => first | exact List.not_mem_nil | assumption))
  | ((with_reducible refine' Rd.ixBL ?v1 ?v2 ?v4 ?v3 ?_); (case v1 => assumption); (case v2 => assumption); (case v4 => first | exact List.not_mem_nil | assumption); (case v3 => walk_at "at"))
  | ((with_reducible refine' Rd.ixBT ?v1 ?v2 ?v4 ?v3 ?_); (case v1 => assumption); (case v2 => assumption); (case v4 => first | exact List.not_mem_nil | assumption); (case v3 => walk_at "at"))
  | ((with_reducible refine' Rd.brI ?vh ?_); (case vh => with_reducible exact rfl))
  | with_reducible refine' Rd.ifS ?_
  | with_reducible refine' Rd.test ?_
  | with_reducible refine' Rd.tbl ?_
  | with_reducible refine' Rd.bl ?_
  | with_reducible refine' Rd.brTT ?_
  | with_reducible refine' Rd.brFF ?_
  | with_reducible refine' Rd.brN ?_
  | ((with_reducible refine' Rd.aug ?vh ?_); (case vh => exact rfl))
  | with_reducible refine' Rd.ipI ?_
  | with_reducible refine' Rd.blV ?_
  | with_reducible refine' Rd.notVL ?_
  | with_reducible refine' Rd.andT ?_
  | with_reducible refine' Rd.orT ?_
  | with_reducible refine' Rd.notT ?_
  | with_reducible refine' Rd.andV ?_
  | with_reducible refine' Rd.orV ?_
  | with_reducible refine' Rd.notV ?_
  | with_reducible refine' Rd.ifE ?_
  | ((with_reducible refine' Rd.eqS ?vh ?_); (case vh => exact rfl))
  | ((with_reducible refine' Rd.neS ?vh ?_); (case vh => exact rfl))
  | with_reducible refine' Rd.par ?_
  | with_reducible refine' Rd.parL ?_
  | with_reducible refine' Rd.un ?_
  | with_reducible refine' Rd.u1 ?_
  | with_reducible refine' Rd.sub ?_
  | ((with_reducible refine' Rd.setL ?v1 ?v2 ?v3 ?v4 ?v5 ?_); (case v1 => assumption); (case v2 => walk_at "mem"); (case v3 => walk_at "at"); (case v4 => walk_at "put"); (case v5 => walk_at "own"); intro _ _)
  | with_reducible refine' Rd.tup ?_
  | with_reducible refine' Rd.lst ?_
  | ((with_reducible refine' Rd.tupN ?v1 ?v2 ?_); (case v1 => assumption); (case v2 => simp only [List.length_cons, List.length_nil]; decide); intro _ _ _ _)
  | ((with_reducible refine' Rd.lstN ?v1 ?v2 ?_); (case v1 => assumption); (case v2 => simp only [List.length_cons, List.length_nil]; decide); intro _ _ _ _)
  | with_reducible refine' Rd.ret ?_
  | with_reducible refine' Rd.drop ?_
  | with_reducible refine' Rd.retN ?_
  | with_reducible refine' Rd.next ?_
  | with_reducible refine' Rd.brk ?_
  | with_reducible refine' Rd.cont ?_
  | with_reducible refine' Rd.call ?_
  | walk_at "ask"
  | with_reducible refine' Rd.bm ?_
  | ((with_reducible refine' Rd.bmL ?v1 ?v2 ?_); (case v1 => assumption); (case v2 => walk_at "mem"))
  | ((with_reducible refine' Rd.app ?v1 ?v2 ?v3 ?v4 ?v5 ?_); (case v1 => assumption); (case v2 => walk_at "mem"); (case v3 => simp only [List.length_cons, List.length_nil, List.length_append]; omega); (case v4 => walk_at "put"); (case v5 => walk_at "own"); intro _ _)
  | with_reducible refine' Rd.asgT ?_
  | ((with_reducible refine' Rd.gtup ?v1 ?v2 ?v3 ?_); (case v1 => assumption); (case v2 => walk_at "mem"); (case v3 => exact rfl))
  | with_reducible refine' Rd.gcons ?_
  | with_reducible refine' Rd.gname ?_
  | with_reducible refine' Rd.gnil ?_
  | with_reducible refine' Rd.sl ?_
  | with_reducible refine' Rd.noPart ?_
  | with_reducible refine' Rd.part ?_
  | with_reducible refine' Rd.prt ?_
  | with_reducible refine' Rd.isB ?_
  | ((with_reducible refine' Rd.wp ?vh ?_); (case vh => exact rfl))
  | with_reducible refine' Rd.makeK ?_
  | with_reducible refine' Rd.meth ?_
  | ((with_reducible refine' Rd.catL ?v1 ?v2 ?v3 ?v4 ?_); (case v1 => assumption); (case v2 => walk_at "mem"); (case v3 => walk_at "mem"); (case v4 => simp only [List.length_cons, List.length_nil, List.length_append]; omega); intro _ _ _ _)
  | with_reducible refine' Rd.dnew ?_
  | ((with_reducible refine' Rd.dnewL ?v1 ?_); (case v1 => assumption); intro _ _ _ _)
  | with_reducible refine' Rd.lc ?_
  | with_reducible refine' Rd.wZ ?_
  | with_reducible refine' Rd.tYesH ?_
  | with_reducible refine' Rd.fmt ?_
  | with_reducible refine' Rd.joined ?_
  | with_reducible refine' Rd.jsNil ?_
  | with_reducible refine' Rd.jsCons ?_
  | ((with_reducible refine' Rd.isiT ?v1 ?v2 ?v3 ?v4 ?v5 ?_); (case v1 => assumption); (case v2 => walk_at "mem"); (case v3 => walk_at "ty"); (case v4 => first | exact .cons (.ty _) (.cons (.ty _) .nil) | exact .cons (.ty _) (.cons (.ty _) (.cons (.ty _) (.cons (.ty _) .nil))) | exact .cons (.ty _) (.cons (.ty _) (.cons (.ty _) .nil))); (case v5 => walk_at "kitA"))
  | with_reducible refine' Rd.forS ?_
  | with_reducible refine' Rd.wEnT ?_
  | ((with_reducible refine' Rd.wEnTL ?v1 ?v2 ?_); (case v1 => assumption); (case v2 => walk_at "mem"))
  | with_reducible refine' Rd.wL ?_
  | ((with_reducible refine' Rd.wLL ?v1 ?v2 ?_); (case v1 => assumption); (case v2 => walk_at "mem"))
  | with_reducible refine' Rd.wT ?_
  | ((with_reducible refine' Rd.wTL ?v1 ?v2 ?_); (case v1 => assumption); (case v2 => walk_at "mem"))
  | with_reducible refine' Rd.wR1 ?_
  | ((with_reducible refine' Rd.wR1L ?v1 ?v2 ?_); (case v1 => omega); (case v2 => omega))
  | with_reducible refine' Rd.wR2 ?_
  | ((with_reducible refine' Rd.wR2L ?v1 ?_); (case v1 => omega)))
local macro_rules | `(tactic| walk_at "rd") => `(tactic| repeat (walk_at "rd1"))

local macro_rules | `(tactic| walk_at "ask") => `(tactic| ((with_reducible refine' fill_ask ?v1 ?v2 ?v3 ?v4 ?v5 ?_); (case v1 => assumption); (case v2 => walk_at "mem"); (case v3 => walk_at "mem"); (case v4 => assumption); (case v5 => walk_at "own"); intro _ _))

local macro_rules | `(tactic| walk_at "ask") => `(tactic| ((with_reducible refine' take_ask ?v1 ?v2 ?v3 ?v4 ?v5 ?v6 ?_); (case v1 => assumption); (case v2 => walk_at "mem"); (case v3 => walk_at "mem"); (case v4 => assumption); (case v5 => walk_at "own"); (case v6 => first | decide | omega); intro _ _ _ _))
local macro_rules | `(tactic| walk_at "ask") => `(tactic| ((with_reducible refine' one_ask ?v1 ?v2 ?v3 ?v4 ?v5 ?_); (case v1 => assumption); (case v2 => walk_at "subl"); (case v3 => assumption); (case v4 => walk_at "own"); (case v5 => simp only [List.length_append, List.length_cons, List.length_nil]; decide); intro _ _ _ _))
local macro_rules | `(tactic| walk_at "ask") => `(tactic| ((with_reducible refine' fig_ask ?v1 ?v2 ?v3 ?v4 ?_); (case v1 => assumption); (case v2 => walk_at "subl"); (case v3 => assumption); (case v4 => walk_at "own"); intro _ _ _ _))
local macro_rules | `(tactic| walk_at "ask") => `(tactic| ((with_reducible refine' low_ask ?v1 ?v2 ?v3 ?v4 ?_); (case v1 => assumption); (case v2 => first | assumption | omega); (case v3 => omega); (case v4 => omega); intro _ _ _ _))
local macro_rules | `(tactic| walk_at "ask") => `(tactic| ((with_reducible refine' frac_ask ?v1 ?v2 ?v3 ?v4 ?_); (case v1 => assumption); (case v2 => walk_at "subl"); (case v3 => assumption); (case v4 => walk_at "own"); intro _ _ _ _ _ _ _))

local macro_rules | `(tactic| walk_at "ask") => `(tactic| with_reducible refine' isI_int ?_)
local macro_rules | `(tactic| walk_at "ask") => `(tactic| ((with_reducible refine' mk_span ?v1 ?v2 ?v3 ?_); (case v1 => assumption); (case v2 => first | assumption | omega); (case v3 => first | assumption | omega); intro _ _ _ _))
local macro_rules | `(tactic| walk_at "ask") => `(tactic| ((with_reducible refine' mk_span1 ?v1 ?_); (case v1 => assumption); intro _ _ _ _))
local macro_rules | `(tactic| walk_at "ask") => `(tactic| ((with_reducible refine' fld_over ?v1 ?v2 ?v3 ?v4 ?_); (case v1 => assumption); (case v2 => assumption); (case v3 => assumption); (case v4 => walk_at "mem")))
local macro_rules | `(tactic| walk_at "ask") => `(tactic| ((with_reducible refine' fld_under ?v1 ?v2 ?v3 ?v4 ?_); (case v1 => assumption); (case v2 => assumption); (case v3 => assumption); (case v4 => walk_at "mem")))
local macro_rules | `(tactic| walk_at "ty") => `(tactic| exact span_ty (by assumption) (by assumption) (by walk_at "mem"))

section
/-! ### _law_tried, which calls the lambda that it got -/
/-- what it makes of the lambda's reading -/
def Rf (K : PySem.W.Frag) (Q : VK) : XK := fun cls d H' => cls = .ref (He.ga K "BadPart") ∧ ∃ d0 v, d = some d0 ∧ H' d0 = some (.xd [("part", v)]) ∧ ∀ r H'', H' r = none → Stt H' [] [(r, Is (.tup [.str "part", v]))] H'' → Q (.ref r) H''
def Go (Q : VK) (H' : Hp) : Prop := ∀ r H'', H' r = none → Stt H' [] [(r, Is (.tup [.str "goes"]))] H'' → Q (.ref r) H''
def TTr (K : PySem.W.Frag) : (XK → Hp → VK → Prop) → Hp → VK → Prop := fun tl H Q => ∀ H1, Kp [] H H1 → ∀ (E' : XK) (Q' : VK), (∀ v H', Go Q H' → Q' v H') → (∀ cls d H', Rf K Q cls d H' → E' cls d H') → tl E' H1 Q'
theorem takes_len {X : Cx} {W : WX} (t : Takes X W) : Takes X (fun c d σ H => σ.length = X.N.length → W c d σ H) := fun u s' ⟨a, B, sI, pins, σ, H, cls, d, e, I, nb, up, sky, na, os, ag, w⟩ =>
  t u s' ⟨a, B, sI, pins, σ, H, cls, d, e, I, nb, up, sky, na, os, ag, w I.len⟩
theorem three_of {α : Type} {l : List α} (h : l.length = 3) : ∃ x y z, l = [x, y, z] := by
  match l, h with
  | [x, y, z], _ => exact ⟨x, y, z, rfl⟩
def tAct (f c' : Addr) (q : Str) (tl : XK → Hp → VK → Prop) (n : Nat) (W : WX) : TS := fun D σ H => ∃ Ech : XK, (∀ cls d σ' H', Ech cls d H' → σ'.length = n → W cls d σ' H') ∧ σ[0]? = some (some (.ref f)) ∧ H c' = some (LamX.CodeO c' q) ∧ tl Ech H fun _ H1 => D.nx σ H1
theorem ps_act {X : Cx} {f c' : Addr} {q : Str} {tl : XK → Hp → VK → Prop} {W : WX} {pn : List (Addr × Obj)} {xe : Value → Shared → Prop} {a : Str} {p1 p2 pos : Pos}
    (act : ∀ (W : WX) (pn : List (Addr × Obj)) (xe : Value → Shared → Prop) (E : XK), Takes (X.tr pn xe) W → (∀ cls d σ' H', E cls d H' → W cls d σ' H') → PE (X.tr pn xe) (.Call (.Name a p1) [] [] p2) (fun σZ HZ Q => σZ[0]? = some (some (.ref f)) ∧ HZ c' = some (LamX.CodeO c' q) ∧ tl E HZ Q))
    (tk : Takes (X.tr pn xe) W) : PS (X.tr pn xe) (.Expr (.Call (.Name a p1) [] [] p2) pos) (tAct f c' q tl X.N.length W) := by
  refine ⟨fun pins s' σ H' D I h' => ?_⟩
  obtain ⟨Ech, hW, h1, h2, h3⟩ := h'
  exact (ps_expr (act _ pn xe Ech (takes_len tk) hW)).run pins s' σ H' D I ⟨h1, h2, h3⟩
theorem tried_gives {X : Cx} (T : Txt X.K X.mg) {q : Str} {cdv : Value} : LamX.GivesTo X ["_law_ask", "_law_found", "e"] "_law_tried" (defScope s_l_tried) (He.fAd X.K ("_law_tried", none)) cdv (defBody s_l_tried) "_law_ask" q (TTr X.K) := by
  intro f c' s H Q tl act0 hc h
  have act := fun (W : WX) (pn : List (Addr × Obj)) (xe : Value → Shared → Prop) (E : XK) (p1 p2 : Pos) tk hW => act0 W pn xe E p1 p2 tk hW
  refine ⟨_, PSs.nox (pss_cons (ps_asg (pe_tup (pa_cons pe_str pa_nil)) (pg_name (i := 1) sc_l_tried.nd rfl (by first | exact Or.inl rfl | exact Or.inr rfl)))
  (pss_cons (ps_try_as (i := 2) (tb := fun W => tSeq (tAct f c' q tl 3 W) (tAsg (tTup (tCons (tC (.str "goes")) tNil)) (gName 1))) (ts := fun a cls d => tAsg (tTup (tCons (tC (.str "part")) (tCons (tXf a cls d (He.ga X.K "BadPart") "part" (tVar 2)) tNil))) (gName 1)) (Wout := fun _ _ _ _ => False) rfl rfl sc_l_tried.nd rfl rfl ⟨rfl, by decide, Or.inl T.g_BadPart⟩ LamX.takes0 (fun W pn xe tk _ => (pss_cons (ps_act (fun W pn xe E tk hW => act W pn xe E _ _ tk hW) tk) (pss_one (ps_asg (by exact (pe_tup (pa_cons pe_str pa_nil))) (pg_name (i := 1) sc_l_tried.nd rfl (by first | exact Or.inl rfl | exact Or.inr rfl)))))) (fun a oe cls d pn hz hf => (pss_one (ps_asg (by exact (pe_tup (pa_cons pe_str (pa_cons (pe_xf T.x_BadPart.xf T.a_BadPart_part hz hf (pv 2)) pa_nil)))) (pg_name (i := 1) sc_l_tried.nd rfl (by first | exact Or.inl rfl | exact Or.inr rfl))))))
  (pss_one (ps_ret (pv 1))))), ?_⟩
  walk_at "k"
  have s0 : Stt H [] [] H := Stt.nil
  walk_at "rd"
  rename_i p H1 hp s1
  refine ⟨Rf X.K Q, fun cls d σ' H' hx hl => ?_, rfl, s1.keep.get List.not_mem_nil hc, h H1 s1.keep _ _ (fun v H' hg => ?_) fun _ _ _ z => z⟩
  · obtain ⟨rfl, d0, v, rfl, hd, k⟩ := hx
    obtain ⟨x0, x1, x2, rfl⟩ := three_of hl
    refine ⟨true, T.x_BadPart.te, fun _ a ha => ?_, fun z => Bool.noConfusion z⟩
    have s2 : Stt H' [] [] H' := Stt.nil
    clear s0 s1
    show tAsg _ _ _ _ _
    walk_at "rd"
    refine ⟨_, rfl, rfl, rfl, d0, _, _, rfl, hd, rfl, ?_⟩
    walk_at "rd"
    exact k _ _ (by assumption) (by assumption)
  · have s2 : Stt H' [] [] H' := Stt.nil
    clear s0 s1
    walk_at "rd"
    exact hg _ _ (by assumption) (by assumption)
end

end
section
local macro_rules | `(tactic| walk_at "subl") => `(tactic| first | with_reducible exact List.nil_sublist _ | with_reducible exact List.Sublist.refl _ | (with_reducible refine List.Sublist.cons₂ _ ?_; walk_at "subl") | (with_reducible refine List.Sublist.cons _ ?_; walk_at "subl"))
local macro_rules | `(tactic| walk_at "k") => `(tactic| try dsimp only [L2.cxOf, L2.Cx.nox, L2.Cx.wish, L2.Cx.blk])
local macro_rules | `(tactic| walk_at "ask") => `(tactic| fail)
local macro_rules | `(tactic| walk_at "mem") => `(tactic| first | with_reducible exact List.mem_cons_self | (with_reducible apply List.mem_cons_of_mem; walk_at "mem"))
local macro_rules | `(tactic| walk_at "put") => `(tactic| first | with_reducible exact Lt.Put.head | (with_reducible apply Lt.Put.tail; walk_at "put"))
local macro_rules | `(tactic| walk_at "own") => `(tactic| first | exact Or.inr (by assumption) | exact Or.inl (by walk_at "mem"))
local macro_rules | `(tactic| walk_at "cnd") => `(tactic| first | assumption | decide | ((try dsimp only); omega) | (unfold CMul; omega) | (unfold CDiv; omega) | (unfold CPow; omega) | exact Or.inr (by decide) | exact Or.inl (by decide) | exact wide_div (b := 128) (by omega) (by omega) (by decide) (by decide))
local macro_rules | `(tactic| walk_at "at") => `(tactic| first | exact rfl | assumption)
local macro_rules | `(tactic| walk_at "kit") => `(tactic| first | assumption | exact kit_int_int | exact kit_int_bool | exact kit_int_str | exact kit_int_list | exact kit_int_tuple | exact kit_int_dict | exact kit_bool_int | exact kit_bool_bool | exact kit_bool_str | exact kit_bool_list | exact kit_bool_tuple | exact kit_bool_dict | exact kit_str_int | exact kit_str_bool | exact kit_str_str | exact kit_str_list | exact kit_str_tuple | exact kit_str_dict | exact kit_list_int | exact kit_list_bool | exact kit_list_str | exact kit_list_list | exact kit_list_tuple | exact kit_list_dict | exact kit_tuple_int | exact kit_tuple_bool | exact kit_tuple_str | exact kit_tuple_list | exact kit_tuple_tuple | exact kit_tuple_dict | exact kit_dict_int | exact kit_dict_bool | exact kit_dict_str | exact kit_dict_list | exact kit_dict_tuple | exact kit_dict_dict | exact kit_NoneType_int | exact kit_NoneType_bool | exact kit_NoneType_str | exact kit_NoneType_list | exact kit_NoneType_tuple | exact kit_NoneType_dict)
local macro_rules | `(tactic| walk_at "kitA") => `(tactic| first | assumption | exact kitA_lt_int | exact kitA_lt_bool | exact kitA_lt_str | exact kitA_lt_list | exact kitA_lt_tuple | exact kitA_lt_dict | exact kitA_lt_NoneType | exact kitA_bilt_int | exact kitA_bilt_bool | exact kitA_bilt_str | exact kitA_bilt_list | exact kitA_bilt_tuple | exact kitA_bilt_dict | exact kitA_bilt_NoneType)
local macro_rules | `(tactic| walk_at "ty") => `(tactic| first | exact .base (.int _) | exact .base (.bl _) | exact .base (.str _) | exact .base .non | exact .base (.lst (Stt.get (by assumption) (by walk_at "mem"))) | exact .base (.tup (Stt.get (by assumption) (by walk_at "mem"))) | exact .base (.dK (Stt.get (by assumption) (by walk_at "mem"))) | exact sqL_ty (Stt.upL (by assumption) (by assumption)) | exact sqT_ty (Stt.upT (by assumption) (by assumption)) | exact InsT.ty (by assumption) (Stt.get (by assumption) (by walk_at "mem")) | assumption)
local macro_rules | `(tactic| walk_at "rd1") => `(tactic| first
  | with_reducible refine' Rd.seq ?_
  | with_reducible refine' Rd.asg ?_
  | ((with_reducible refine' Rd.var ?vh ?_); (case vh => exact rfl))
  | with_reducible refine' Rd.con ?_
  | with_reducible refine' Rd.op ?_
  | with_reducible refine' Rd.i0 ?_
  | ((with_reducible refine' Rd.ic ?vh ?_); (case vh => walk_at "cnd"))
  | ((with_reducible refine' Rd.ixL ?v1 ?v2 ?v3 ?_); (case v1 => assumption); (case v2 => walk_at "mem"); (case v3 => walk_at "at"))
  | ((with_reducible refine' Rd.ixT ?v1 ?v2 ?v3 ?_); (case v1 => assumption); (case v2 => walk_at "mem"); (case v3 => walk_at "at"))
  | ((with_reducible refine' Rd.ixD2 ?v1 ?v2 ?_); (case v1 => assumption); (case v2 => walk_at "mem"); intro _)
  | ((with_reducible refine' Rd.ixD3 ?v1 ?v2 ?_); (case v1 => assumption); (case v2 => walk_at "mem"); intro _)
  | ((with_reducible refine' Rd.setD2 ?v1 ?v2 ?v3 ?v4 ?_); (case v1 => assumption); (case v2 => walk_at "mem"); (case v3 => walk_at "put"); (case v4 => walk_at "own"); intro _ _)
  | ((with_reducible refine' Rd.isi ?v1 ?v2 ?v3 ?_); (case v1 => walk_at "ty"); (case v2 => first | exact ClsV.ty _ | exact ClsV.own _); (case v3 => walk_at "kit"))
  | with_reducible refine' Rd.fld ?_
  | ((with_reducible refine' Rd.fldI ?v1 ?v2 ?v3 ?v4 ?v5 ?_); (case v1 => assumption); (case v2 => walk_at "mem"); (case v3 => assumption); (case v4 => assumption); (case v5 => walk_at "at"))
  | with_reducible refine' Rd.sfld ?_
  | ((with_reducible refine' Rd.sfldI ?v1 ?v2 ?v3 ?v4 ?v5 ?v6 ?v7 ?_); (case v1 => assumption); (case v2 => walk_at "mem"); (case v3 => assumption); (case v4 => assumption); (case v5 => first | decide | (refine Nat.lt_of_le_of_lt (putF_len _ _ _) ?_; decide)); (case v6 => walk_at "put"); (case v7 => walk_at "own"); intro _ _)
  | with_reducible refine' Rd.make ?_
  | with_reducible refine' Rd.gcd ?_
  | with_reducible refine' Rd.cons ?_
  | with_reducible refine' Rd.nil ?_
  | with_reducible refine' Rd.cb ?_
  | with_reducible refine' Rd.intI ?_
  | with_reducible refine' Rd.absI ?_
  | ((with_reducible refine' Rd.lenL ?v1 ?v2 ?_); (case v1 => assumption); (case v2 => walk_at "mem"))
  | ((with_reducible refine' Rd.lenT ?v1 ?v2 ?_); (case v1 => assumption); (case v2 => walk_at "mem"))
  | ((with_reducible refine' Rd.lenBL ?v1 ?v2 ?v3 ?_); (case v1 => assumption); (case v2 => assumption); (case v3 => first | exact List.not_mem_nil | assumption))
  | ((with_reducible refine' Rd.lenBT ?v1 ?v2 ?v3 ?_); (case v1 => assumption); (case v2 => assumption); (case v3 => first | exact List.not_mem_nil | assumption))
  | ((with_reducible refine' Rd.ixBL ?v1 ?v2 ?v4 ?v3 ?_); (case v1 => assumption); (case v2 => assumption); (case v4 => first | exact List.not_mem_nil | assumption); (case v3 => walk_at "at"))
  | ((with_reducible refine' Rd.ixBT ?v1 ?v2 ?v4 ?v3 ?_); (case v1 => assumption); (case v2 => assumption); (case v4 => first | exact List.not_mem_nil | assumption); (case v3 => walk_at "at"))
  | ((with_reducible refine' Rd.brI ?vh ?_); (case vh => with_reducible exact rfl))
  | with_reducible refine' Rd.ifS ?_
  | with_reducible refine' Rd.test ?_
  | with_reducible refine' Rd.tbl ?_
  | with_reducible refine' Rd.bl ?_
  | with_reducible refine' Rd.brTT ?_
  | with_reducible refine' Rd.brFF ?_
  | with_reducible refine' Rd.brN ?_
  | ((with_reducible refine' Rd.aug ?vh ?_); (case vh => exact rfl))
  | with_reducible refine' Rd.ipI ?_
  | with_reducible refine' Rd.blV ?_
  | with_reducible refine' Rd.notVL ?_
  | with_reducible refine' Rd.andT ?_
  | with_reducible refine' Rd.orT ?_
  | with_reducible refine' Rd.notT ?_
  | with_reducible refine' Rd.andV ?_
  | with_reducible refine' Rd.orV ?_
  | with_reducible refine' Rd.notV ?_
  | with_reducible refine' Rd.ifE ?_
  | ((with_reducible refine' Rd.eqS ?vh ?_); (case vh => exact rfl))
  | ((with_reducible refine' Rd.neS ?vh ?_); (case vh => exact rfl))
  | with_reducible refine' Rd.par ?_
  | with_reducible refine' Rd.parL ?_
  | with_reducible refine' Rd.un ?_
  | with_reducible refine' Rd.u1 ?_
  | with_reducible refine' Rd.sub ?_
  | ((with_reducible refine' Rd.setL ?v1 ?v2 ?v3 ?v4 ?v5 ?_); (case v1 => assumption); (case v2 => walk_at "mem"); (case v3 => walk_at "at"); (case v4 => walk_at "put"); (case v5 => walk_at "own"); intro _ _)
  | with_reducible refine' Rd.tup ?_
  | with_reducible refine' Rd.lst ?_
  | ((with_reducible refine' Rd.tupN ?v1 ?v2 ?_); (case v1 => assumption); (case v2 => simp only [List.length_cons, List.length_nil]; decide); intro _ _ _ _)
  | ((with_reducible refine' Rd.lstN ?v1 ?v2 ?_); (case v1 => assumption); (case v2 => simp only [List.length_cons, List.length_nil]; decide); intro _ _ _ _)
  | with_reducible refine' Rd.ret ?_
  | with_reducible refine' Rd.drop ?_
  | with_reducible refine' Rd.retN ?_
  | with_reducible refine' Rd.next ?_
  | with_reducible refine' Rd.brk ?_
  | with_reducible refine' Rd.cont ?_
  | with_reducible refine' Rd.call ?_
  | walk_at "ask"
  | with_reducible refine' Rd.bm ?_
  | ((with_reducible refine' Rd.bmL ?v1 ?v2 ?_); (case v1 => assumption); (case v2 => walk_at "mem"))
  | ((with_reducible refine' Rd.app ?v1 ?v2 ?v3 ?v4 ?v5 ?_); (case v1 => assumption); (case v2 => walk_at "mem"); (case v3 => simp only [List.length_cons, List.length_nil, List.length_append]; omega); (case v4 => walk_at "put"); (case v5 => walk_at "own"); intro _ _)
  | with_reducible refine' Rd.asgT ?_
  | ((with_reducible refine' Rd.gtup ?v1 ?v2 ?v3 ?_); (case v1 => assumption); (case v2 => walk_at "mem"); (case v3 => exact rfl))
  | with_reducible refine' Rd.gcons ?_
  | with_reducible refine' Rd.gname ?_
  | with_reducible refine' Rd.gnil ?_
  | with_reducible refine' Rd.sl ?_
  | with_reducible refine' Rd.noPart ?_
  | with_reducible refine' Rd.part ?_
  | with_reducible refine' Rd.prt ?_
  | with_reducible refine' Rd.isB ?_
  | ((with_reducible refine' Rd.wp ?vh ?_); (case vh => exact rfl))
  | with_reducible refine' Rd.makeK ?_
  | with_reducible refine' Rd.meth ?_
  | ((with_reducible refine' Rd.catL ?v1 ?v2 ?v3 ?v4 ?_); (case v1 => assumption); (case v2 => walk_at "mem"); (case v3 => walk_at "mem"); (case v4 => simp only [List.length_cons, List.length_nil, List.length_append]; omega); intro _ _ _ _)
  | with_reducible refine' Rd.dnew ?_
  | ((with_reducible refine' Rd.dnewL ?v1 ?_); (case v1 => assumption); intro _ _ _ _)
  | with_reducible refine' Rd.lc ?_
  | with_reducible refine' Rd.wZ ?_
  | with_reducible refine' Rd.tYesH ?_
  | with_reducible refine' Rd.fmt ?_
  | with_reducible refine' Rd.joined ?_
  | with_reducible refine' Rd.jsNil ?_
  | with_reducible refine' Rd.jsCons ?_
  | ((with_reducible refine' Rd.isiT ?v1 ?v2 ?v3 ?v4 ?v5 ?_); (case v1 => assumption); (case v2 => walk_at "mem"); (case v3 => walk_at "ty"); (case v4 => first | exact .cons (.ty _) (.cons (.ty _) .nil) | exact .cons (.ty _) (.cons (.ty _) (.cons (.ty _) (.cons (.ty _) .nil))) | exact .cons (.ty _) (.cons (.ty _) (.cons (.ty _) .nil))); (case v5 => walk_at "kitA"))
  | with_reducible refine' Rd.forS ?_
  | with_reducible refine' Rd.wEnT ?_
  | ((with_reducible refine' Rd.wEnTL ?v1 ?v2 ?_); (case v1 => assumption); (case v2 => walk_at "mem"))
  | with_reducible refine' Rd.wL ?_
  | ((with_reducible refine' Rd.wLL ?v1 ?v2 ?_); (case v1 => assumption); (case v2 => walk_at "mem"))
  | with_reducible refine' Rd.wT ?_
  | ((with_reducible refine' Rd.wTL ?v1 ?v2 ?_); (case v1 => assumption); (case v2 => walk_at "mem"))
  | with_reducible refine' Rd.wR1 ?_
  | ((with_reducible refine' Rd.wR1L ?v1 ?v2 ?_); (case v1 => omega); (case v2 => omega))
  | with_reducible refine' Rd.wR2 ?_
  | ((with_reducible refine' Rd.wR2L ?v1 ?_); (case v1 => omega)))
local macro_rules | `(tactic| walk_at "rd") => `(tactic| repeat (walk_at "rd1"))

local macro_rules | `(tactic| walk_at "ask") => `(tactic| ((with_reducible refine' fill_ask ?v1 ?v2 ?v3 ?v4 ?v5 ?_); (case v1 => assumption); (case v2 => walk_at "mem"); (case v3 => walk_at "mem"); (case v4 => assumption); (case v5 => walk_at "own"); intro _ _))

local macro_rules | `(tactic| walk_at "ask") => `(tactic| ((with_reducible refine' take_ask ?v1 ?v2 ?v3 ?v4 ?v5 ?v6 ?_); (case v1 => assumption); (case v2 => walk_at "mem"); (case v3 => walk_at "mem"); (case v4 => assumption); (case v5 => walk_at "own"); (case v6 => first | decide | omega); intro _ _ _ _))
local macro_rules | `(tactic| walk_at "ask") => `(tactic| ((with_reducible refine' one_ask ?v1 ?v2 ?v3 ?v4 ?v5 ?_); (case v1 => assumption); (case v2 => walk_at "subl"); (case v3 => assumption); (case v4 => walk_at "own"); (case v5 => simp only [List.length_append, List.length_cons, List.length_nil]; decide); intro _ _ _ _))
local macro_rules | `(tactic| walk_at "ask") => `(tactic| ((with_reducible refine' fig_ask ?v1 ?v2 ?v3 ?v4 ?_); (case v1 => assumption); (case v2 => walk_at "subl"); (case v3 => assumption); (case v4 => walk_at "own"); intro _ _ _ _))
local macro_rules | `(tactic| walk_at "ask") => `(tactic| ((with_reducible refine' low_ask ?v1 ?v2 ?v3 ?v4 ?_); (case v1 => assumption); (case v2 => first | assumption | omega); (case v3 => omega); (case v4 => omega); intro _ _ _ _))
local macro_rules | `(tactic| walk_at "ask") => `(tactic| ((with_reducible refine' frac_ask ?v1 ?v2 ?v3 ?v4 ?_); (case v1 => assumption); (case v2 => walk_at "subl"); (case v3 => assumption); (case v4 => walk_at "own"); intro _ _ _ _ _ _ _))

local macro_rules | `(tactic| walk_at "ask") => `(tactic| with_reducible refine' isI_int ?_)
local macro_rules | `(tactic| walk_at "ask") => `(tactic| ((with_reducible refine' mk_span ?v1 ?v2 ?v3 ?_); (case v1 => assumption); (case v2 => first | assumption | omega); (case v3 => first | assumption | omega); intro _ _ _ _))
local macro_rules | `(tactic| walk_at "ask") => `(tactic| ((with_reducible refine' mk_span1 ?v1 ?_); (case v1 => assumption); intro _ _ _ _))
local macro_rules | `(tactic| walk_at "ask") => `(tactic| ((with_reducible refine' fld_over ?v1 ?v2 ?v3 ?v4 ?_); (case v1 => assumption); (case v2 => assumption); (case v3 => assumption); (case v4 => walk_at "mem")))
local macro_rules | `(tactic| walk_at "ask") => `(tactic| ((with_reducible refine' fld_under ?v1 ?v2 ?v3 ?v4 ?_); (case v1 => assumption); (case v2 => assumption); (case v3 => assumption); (case v4 => walk_at "mem")))
local macro_rules | `(tactic| walk_at "ty") => `(tactic| exact span_ty (by assumption) (by assumption) (by walk_at "mem"))

section
variable {P : Program} {w : World} {K : PySem.W.Frag} {mg : Str → Option Value} {base : Heap}
/-! ### _law_tried(lambda: ..), asked -/
/-- a base heap without tables; facts that no table meets -/
def NoT (H : Hp) : Prop := ∀ b ps, H b ≠ some (.tbl ps)
def NoTl (l : Led) : Prop := ∀ e ∈ l, ∀ ps, ¬ e.2 (.tbl ps)
theorem noTl_nil : NoTl [] := fun _ h => nomatch h
theorem noTl_cons {a : Addr} {f : HO → Prop} {l : Led} (h : ∀ ps, ¬ f (.tbl ps)) (hl : NoTl l) : NoTl ((a, f) :: l) := fun e me => by
  rcases List.mem_cons.mp me with e' | me
  · subst e'
    exact h
  · exact hl e me
theorem sttLam {Hb H H1 : Hp} {l : Led} (nT : NoT Hb) (hl : NoTl l) (s : Stt Hb [] l H) (e : LamX.ExtN H H1) : Stt Hb [] l H1 where
  keep := fun b o eb => .inl (e b o (s.keep.get List.not_mem_nil eb) fun ps q => nT b ps (q ▸ eb))
  nd := s.nd
  at_ := fun x m => by
    obtain ⟨o, ho, f⟩ := s.at_ x m
    exact ⟨o, e _ o ho fun ps q => hl x m ps (q ▸ f), f⟩
theorem tabs_kp {Tb : List (Addr × Str)} {H H' : Hp} (t : LamX.Tabs Tb H) (k : Kp [] H H') : LamX.Tabs Tb H' := t.ext fun b o e => k.get List.not_mem_nil e
section
variable {Tb : List (Addr × Str)} {Hb H : Hp} {l : Led} {t : XK → TE} {σ : L2.St} {v : V} {Q : VK}
/-- it is refused: v -/
theorem lam_part (nT : NoT Hb) (hl : NoTl l) (s : Stt Hb [] l H) (tb : LamX.Tabs Tb H)
    (ht : ∀ H2 (E' : XK) (Q' : VK), Stt Hb [] l H2 → LamX.Tabs Tb H2 → (∀ cls d H', XP K v H2 cls d H' → E' cls d H') → t E' σ H2 Q')
    (k : ∀ r H'', Hb r = none → Stt Hb [] ((r, Is (.tup [.str "part", v])) :: l) H'' → LamX.Tabs Tb H'' → Q (.ref r) H'') : LamX.tLam Tb (TTr K) t σ H Q := by
  refine ⟨tb, fun H1 e tb1 => fun H2 k2 E' Q' _ hE => ?_⟩
  have s2 := (sttLam nT hl s e).after0 k2
  have tb2 := tabs_kp tb1 k2
  refine ht H2 E' Q' s2 tb2 fun cls d H' hx => hE _ _ _ ?_
  obtain ⟨rfl, d0, rfl, hd, k3⟩ := hx
  refine ⟨rfl, d0, v, rfl, hd, fun r H'' hr s5 => ?_⟩
  have s3 := s2.after0 k3
  exact k r H'' (s3.none hr) ((s3.after0 s5.keep).add (s5.pick List.mem_cons_self) (s3.fresh hr)) (tabs_kp (tabs_kp tb2 k3) s5.keep)
/-- it goes -/
theorem lam_goes (nT : NoT Hb) (hl : NoTl l) (s : Stt Hb [] l H) (tb : LamX.Tabs Tb H)
    (ht : ∀ H2 (E' : XK) (Q' : VK), Stt Hb [] l H2 → LamX.Tabs Tb H2 → (∀ v H', Kp [] H2 H' → Q' v H') → t E' σ H2 Q')
    (k : ∀ r H'', Hb r = none → Stt Hb [] ((r, Is (.tup [.str "goes"])) :: l) H'' → LamX.Tabs Tb H'' → Q (.ref r) H'') : LamX.tLam Tb (TTr K) t σ H Q := by
  refine ⟨tb, fun H1 e tb1 => fun H2 k2 E' Q' hQ _ => ?_⟩
  have s2 := (sttLam nT hl s e).after0 k2
  have tb2 := tabs_kp tb1 k2
  refine ht H2 E' Q' s2 tb2 fun v H' k3 => hQ v H' fun r H'' hr s5 => ?_
  have s3 := s2.after0 k3
  exact k r H'' (s3.none hr) ((s3.after0 s5.keep).add (s5.pick List.mem_cons_self) (s3.fresh hr)) (tabs_kp (tabs_kp tb2 k3) s5.keep)
end
/-- the rule: _law_tried(lambda: body) in a def whose code object and table are known -/
theorem pe_tried {X : Cx} (T : Txt X.K X.mg) {Tb : List (Addr × Str)} {c : Addr} {k : Nat} {params : Arguments} {body : Expr} {scope : Scope} {t : XK → TE} {p lpos pos : Pos} (hg : Gl X "_law_tried") {Pt : Addr} (TB : LamX.TabB X.base X.mg c Pt) (hcode : X.env.code = .ref c)
    (hmT : (Pt, X.env.qual ++ "<lambda>") ∈ Tb) (hu : ∀ p ∈ Tb, p.1 = Pt → p.2 = X.env.qual ++ "<lambda>") (hr : Room (k + 2) X.A) (L : LamX.LamS X.env.scope scope) (hdef : defaultsOf params X.env = ([], []))
    (hbind : ∀ (q : Str) (cl : List (Str × Addr)) (pm cv ctv : Value), bindArgs (PySem.W.kla_fn "<lambda>" q params body scope cl pm cv ctv) ⟨[], []⟩ = pure [])
    (hbody : ∀ (A : Around) (outer : List Env) (s : Shared) (H : Hp) (E : XK) (f c' : Addr), Room k (A.deeper (LamX.lamEnv X scope s.heap.objs.size f c')) → PE (LamX.lamCx X A outer s H E scope f c') body (t E)) :
    PE X (.Call (.Name "_law_tried" p) [.Lambda params body scope lpos] [] pos) (LamX.tLam Tb (TTr X.K) t) := by
  obtain ⟨oc, od, dV, kV, doc, pm, an, cdv, ct, osl, e, lk, hcd, hD, hK⟩ := T.F_l_tried.ex
  have hb := T.b_l_tried
  rw [e] at hb lk
  exact LamX.pe_lamcall (Ng := ["_law_ask", "_law_found", "e"]) (a := "_law_ask") hg T.g_l_tried T.F_l_tried.kp lk hcd hb sc_l_tried rfl (Or.inl rfl) (tried_gives T) TB hcode hmT hu hr L hdef hbind hbody
end

end
section
local macro_rules | `(tactic| walk_at "subl") => `(tactic| first | with_reducible exact List.nil_sublist _ | with_reducible exact List.Sublist.refl _ | (with_reducible refine List.Sublist.cons₂ _ ?_; walk_at "subl") | (with_reducible refine List.Sublist.cons _ ?_; walk_at "subl"))
local macro_rules | `(tactic| walk_at "k") => `(tactic| try dsimp only [L2.cxOf, L2.Cx.nox, L2.Cx.wish, L2.Cx.blk])
local macro_rules | `(tactic| walk_at "ask") => `(tactic| fail)
local macro_rules | `(tactic| walk_at "mem") => `(tactic| first | with_reducible exact List.mem_cons_self | (with_reducible apply List.mem_cons_of_mem; walk_at "mem"))
local macro_rules | `(tactic| walk_at "put") => `(tactic| first | with_reducible exact Lt.Put.head | (with_reducible apply Lt.Put.tail; walk_at "put"))
local macro_rules | `(tactic| walk_at "own") => `(tactic| first | exact Or.inr (by assumption) | exact Or.inl (by walk_at "mem"))
local macro_rules | `(tactic| walk_at "cnd") => `(tactic| first | assumption | decide | ((try dsimp only); omega) | (unfold CMul; omega) | (unfold CDiv; omega) | (unfold CPow; omega) | exact Or.inr (by decide) | exact Or.inl (by decide) | exact wide_div (b := 128) (by omega) (by omega) (by decide) (by decide))
local macro_rules | `(tactic| walk_at "at") => `(tactic| first | exact rfl | assumption)
local macro_rules | `(tactic| walk_at "kit") => `(tactic| first | assumption | exact kit_int_int | exact kit_int_bool | exact kit_int_str | exact kit_int_list | exact kit_int_tuple | exact kit_int_dict | exact kit_bool_int | exact kit_bool_bool | exact kit_bool_str | exact kit_bool_list | exact kit_bool_tuple | exact kit_bool_dict | exact kit_str_int | exact kit_str_bool | exact kit_str_str | exact kit_str_list | exact kit_str_tuple | exact kit_str_dict | exact kit_list_int | exact kit_list_bool | exact kit_list_str | exact kit_list_list | exact kit_list_tuple | exact kit_list_dict | exact kit_tuple_int | exact kit_tuple_bool | exact kit_tuple_str | exact kit_tuple_list | exact kit_tuple_tuple | exact kit_tuple_dict | exact kit_dict_int | exact kit_dict_bool | exact kit_dict_str | exact kit_dict_list | exact kit_dict_tuple | exact kit_dict_dict | exact kit_NoneType_int | exact kit_NoneType_bool | exact kit_NoneType_str | exact kit_NoneType_list | exact kit_NoneType_tuple | exact kit_NoneType_dict)
local macro_rules | `(tactic| walk_at "kitA") => `(tactic| first | assumption | exact kitA_lt_int | exact kitA_lt_bool | exact kitA_lt_str | exact kitA_lt_list | exact kitA_lt_tuple | exact kitA_lt_dict | exact kitA_lt_NoneType | exact kitA_bilt_int | exact kitA_bilt_bool | exact kitA_bilt_str | exact kitA_bilt_list | exact kitA_bilt_tuple | exact kitA_bilt_dict | exact kitA_bilt_NoneType)
local macro_rules | `(tactic| walk_at "ty") => `(tactic| first | exact .base (.int _) | exact .base (.bl _) | exact .base (.str _) | exact .base .non | exact .base (.lst (Stt.get (by assumption) (by walk_at "mem"))) | exact .base (.tup (Stt.get (by assumption) (by walk_at "mem"))) | exact .base (.dK (Stt.get (by assumption) (by walk_at "mem"))) | exact sqL_ty (Stt.upL (by assumption) (by assumption)) | exact sqT_ty (Stt.upT (by assumption) (by assumption)) | exact InsT.ty (by assumption) (Stt.get (by assumption) (by walk_at "mem")) | assumption)
local macro_rules | `(tactic| walk_at "rd1") => `(tactic| first
  | with_reducible refine' Rd.seq ?_
  | with_reducible refine' Rd.asg ?_
  | ((with_reducible refine' Rd.var ?vh ?_); (case vh => exact rfl))
  | with_reducible refine' Rd.con ?_
  | with_reducible refine' Rd.op ?_
  | with_reducible refine' Rd.i0 ?_
  | ((with_reducible refine' Rd.ic ?vh ?_); (case vh => walk_at "cnd"))
  | ((with_reducible refine' Rd.ixL ?v1 ?v2 ?v3 ?_); (case v1 => assumption); (case v2 => walk_at "mem"); (case v3 => walk_at "at"))
  | ((with_reducible refine' Rd.ixT ?v1 ?v2 ?v3 ?_); (case v1 => assumption); (case v2 => walk_at "mem"); (case v3 => walk_at "at"))
  | ((with_reducible refine' Rd.ixD2 ?v1 ?v2 ?_); (case v1 => assumption); (case v2 => walk_at "mem"); intro _)
  | ((with_reducible refine' Rd.ixD3 ?v1 ?v2 ?_); (case v1 => assumption); (case v2 => walk_at "mem"); intro _)
  | ((with_reducible refine' Rd.setD2 ?v1 ?v2 ?v3 ?v4 ?_); (case v1 => assumption); (case v2 => walk_at "mem"); (case v3 => walk_at "put"); (case v4 => walk_at "own"); intro _ _)
  | ((with_reducible refine' Rd.isi ?v1 ?v2 ?v3 ?_); (case v1 => walk_at "ty"); (case v2 => first | exact ClsV.ty _ | exact ClsV.own _); (case v3 => walk_at "kit"))
  | with_reducible refine' Rd.fld ?_
  | ((with_reducible refine' Rd.fldI ?v1 ?v2 ?v3 ?v4 ?v5 ?_); (case v1 => assumption); (case v2 => walk_at "mem"); (case v3 => assumption); (case v4 => assumption); (case v5 => walk_at "at"))
  | with_reducible refine' Rd.sfld ?_
  | ((with_reducible refine' Rd.sfldI ?v1 ?v2 ?v3 ?v4 ?v5 ?v6 ?v7 ?_); (case v1 => assumption); (case v2 => walk_at "mem"); (case v3 => assumption); (case v4 => assumption); (case v5 => first | decide | (refine Nat.lt_of_le_of_lt (putF_len _ _ _) ?_; decide)); (case v6 => walk_at "put"); (case v7 => walk_at "own"); intro _ _)
  | with_reducible refine' Rd.make ?_
  | with_reducible refine' Rd.gcd ?_
  | with_reducible refine' Rd.cons ?_
  | with_reducible refine' Rd.nil ?_
  | with_reducible refine' Rd.cb ?_
  | with_reducible refine' Rd.intI ?_
  | with_reducible refine' Rd.absI ?_
  | ((with_reducible refine' Rd.lenL ?v1 ?v2 ?_); (case v1 => assumption); (case v2 => walk_at "mem"))
  | ((with_reducible refine' Rd.lenT ?v1 ?v2 ?_); (case v1 => assumption); (case v2 => walk_at "mem"))
  | ((with_reducible refine' Rd.lenBL ?v1 ?v2 ?v3 ?_); (case v1 => assumption); (case v2 => assumption); (case v3 => first | exact List.not_mem_nil | assumption))
  | ((with_reducible refine' Rd.lenBT ?v1 ?v2 ?v3 ?_); (case v1 => assumption); (case v2 => assumption); (case v3 => first | exact List.not_mem_nil | assumption))
  | ((with_reducible refine' Rd.ixBL ?v1 ?v2 ?v4 ?v3 ?_); (case v1 => assumption); (case v2 => assumption); (case v4 => first | exact List.not_mem_nil | assumption); (case v3 => walk_at "at"))
  | ((with_reducible refine' Rd.ixBT ?v1 ?v2 ?v4 ?v3 ?_); (case v1 => assumption); (case v2 => assumption); (case v4 => first | exact List.not_mem_nil | assumption); (case v3 => walk_at "at"))
  | ((with_reducible refine' Rd.brI ?vh ?_); (case vh => with_reducible exact rfl))
  | with_reducible refine' Rd.ifS ?_
  | with_reducible refine' Rd.test ?_
  | with_reducible refine' Rd.tbl ?_
  | with_reducible refine' Rd.bl ?_
  | with_reducible refine' Rd.brTT ?_
  | with_reducible refine' Rd.brFF ?_
  | with_reducible refine' Rd.brN ?_
  | ((with_reducible refine' Rd.aug ?vh ?_); (case vh => exact rfl))
  | with_reducible refine' Rd.ipI ?_
  | with_reducible refine' Rd.blV ?_
  | with_reducible refine' Rd.notVL ?_
  | with_reducible refine' Rd.andT ?_
  | with_reducible refine' Rd.orT ?_
  | with_reducible refine' Rd.notT ?_
  | with_reducible refine' Rd.andV ?_
  | with_reducible refine' Rd.orV ?_
  | with_reducible refine' Rd.notV ?_
  | with_reducible refine' Rd.ifE ?_
  | ((with_reducible refine' Rd.eqS ?vh ?_); (case vh => exact rfl))
  | ((with_reducible refine' Rd.neS ?vh ?_); (case vh => exact rfl))
  | with_reducible refine' Rd.par ?_
  | with_reducible refine' Rd.parL ?_
  | with_reducible refine' Rd.un ?_
  | with_reducible refine' Rd.u1 ?_
  | with_reducible refine' Rd.sub ?_
  | ((with_reducible refine' Rd.setL ?v1 ?v2 ?v3 ?v4 ?v5 ?_); (case v1 => assumption); (case v2 => walk_at "mem"); (case v3 => walk_at "at"); (case v4 => walk_at "put"); (case v5 => walk_at "own"); intro _ _)
  | with_reducible refine' Rd.tup ?_
  | with_reducible refine' Rd.lst ?_
  | ((with_reducible refine' Rd.tupN ?v1 ?v2 ?_); (case v1 => assumption); (case v2 => simp only [List.length_cons, List.length_nil]; decide); intro _ _ _ _)
  | ((with_reducible refine' Rd.lstN ?v1 ?v2 ?_); (case v1 => assumption); (case v2 => simp only [List.length_cons, List.length_nil]; decide); intro _ _ _ _)
  | with_reducible refine' Rd.ret ?_
  | with_reducible refine' Rd.drop ?_
  | with_reducible refine' Rd.retN ?_
  | with_reducible refine' Rd.next ?_
  | with_reducible refine' Rd.brk ?_
  | with_reducible refine' Rd.cont ?_
  | with_reducible refine' Rd.call ?_
  | walk_at "ask"
  | with_reducible refine' Rd.bm ?_
  | ((with_reducible refine' Rd.bmL ?v1 ?v2 ?_); (case v1 => assumption); (case v2 => walk_at "mem"))
  | ((with_reducible refine' Rd.app ?v1 ?v2 ?v3 ?v4 ?v5 ?_); (case v1 => assumption); (case v2 => walk_at "mem"); (case v3 => simp only [List.length_cons, List.length_nil, List.length_append]; omega); (case v4 => walk_at "put"); (case v5 => walk_at "own"); intro _ _)
  | with_reducible refine' Rd.asgT ?_
  | ((with_reducible refine' Rd.gtup ?v1 ?v2 ?v3 ?_); (case v1 => assumption); (case v2 => walk_at "mem"); (case v3 => exact rfl))
  | with_reducible refine' Rd.gcons ?_
  | with_reducible refine' Rd.gname ?_
  | with_reducible refine' Rd.gnil ?_
  | with_reducible refine' Rd.sl ?_
  | with_reducible refine' Rd.noPart ?_
  | with_reducible refine' Rd.part ?_
  | with_reducible refine' Rd.prt ?_
  | with_reducible refine' Rd.isB ?_
  | ((with_reducible refine' Rd.wp ?vh ?_); (case vh => exact rfl))
  | with_reducible refine' Rd.makeK ?_
  | with_reducible refine' Rd.meth ?_
  | ((with_reducible refine' Rd.catL ?v1 ?v2 ?v3 ?v4 ?_); (case v1 => assumption); (case v2 => walk_at "mem"); (case v3 => walk_at "mem"); (case v4 => simp only [List.length_cons, List.length_nil, List.length_append]; omega); intro _ _ _ _)
  | with_reducible refine' Rd.dnew ?_
  | ((with_reducible refine' Rd.dnewL ?v1 ?_); (case v1 => assumption); intro _ _ _ _)
  | with_reducible refine' Rd.lc ?_
  | with_reducible refine' Rd.wZ ?_
  | with_reducible refine' Rd.tYesH ?_
  | with_reducible refine' Rd.fmt ?_
  | with_reducible refine' Rd.joined ?_
  | with_reducible refine' Rd.jsNil ?_
  | with_reducible refine' Rd.jsCons ?_
  | ((with_reducible refine' Rd.isiT ?v1 ?v2 ?v3 ?v4 ?v5 ?_); (case v1 => assumption); (case v2 => walk_at "mem"); (case v3 => walk_at "ty"); (case v4 => first | exact .cons (.ty _) (.cons (.ty _) .nil) | exact .cons (.ty _) (.cons (.ty _) (.cons (.ty _) (.cons (.ty _) .nil))) | exact .cons (.ty _) (.cons (.ty _) (.cons (.ty _) .nil))); (case v5 => walk_at "kitA"))
  | with_reducible refine' Rd.forS ?_
  | with_reducible refine' Rd.wEnT ?_
  | ((with_reducible refine' Rd.wEnTL ?v1 ?v2 ?_); (case v1 => assumption); (case v2 => walk_at "mem"))
  | with_reducible refine' Rd.wL ?_
  | ((with_reducible refine' Rd.wLL ?v1 ?v2 ?_); (case v1 => assumption); (case v2 => walk_at "mem"))
  | with_reducible refine' Rd.wT ?_
  | ((with_reducible refine' Rd.wTL ?v1 ?v2 ?_); (case v1 => assumption); (case v2 => walk_at "mem"))
  | with_reducible refine' Rd.wR1 ?_
  | ((with_reducible refine' Rd.wR1L ?v1 ?v2 ?_); (case v1 => omega); (case v2 => omega))
  | with_reducible refine' Rd.wR2 ?_
  | ((with_reducible refine' Rd.wR2L ?v1 ?_); (case v1 => omega)))
local macro_rules | `(tactic| walk_at "rd") => `(tactic| repeat (walk_at "rd1"))

local macro_rules | `(tactic| walk_at "ask") => `(tactic| ((with_reducible refine' fill_ask ?v1 ?v2 ?v3 ?v4 ?v5 ?_); (case v1 => assumption); (case v2 => walk_at "mem"); (case v3 => walk_at "mem"); (case v4 => assumption); (case v5 => walk_at "own"); intro _ _))

local macro_rules | `(tactic| walk_at "ask") => `(tactic| ((with_reducible refine' take_ask ?v1 ?v2 ?v3 ?v4 ?v5 ?v6 ?_); (case v1 => assumption); (case v2 => walk_at "mem"); (case v3 => walk_at "mem"); (case v4 => assumption); (case v5 => walk_at "own"); (case v6 => first | decide | omega); intro _ _ _ _))
local macro_rules | `(tactic| walk_at "ask") => `(tactic| ((with_reducible refine' one_ask ?v1 ?v2 ?v3 ?v4 ?v5 ?_); (case v1 => assumption); (case v2 => walk_at "subl"); (case v3 => assumption); (case v4 => walk_at "own"); (case v5 => simp only [List.length_append, List.length_cons, List.length_nil]; decide); intro _ _ _ _))
local macro_rules | `(tactic| walk_at "ask") => `(tactic| ((with_reducible refine' fig_ask ?v1 ?v2 ?v3 ?v4 ?_); (case v1 => assumption); (case v2 => walk_at "subl"); (case v3 => assumption); (case v4 => walk_at "own"); intro _ _ _ _))
local macro_rules | `(tactic| walk_at "ask") => `(tactic| ((with_reducible refine' low_ask ?v1 ?v2 ?v3 ?v4 ?_); (case v1 => assumption); (case v2 => first | assumption | omega); (case v3 => omega); (case v4 => omega); intro _ _ _ _))
local macro_rules | `(tactic| walk_at "ask") => `(tactic| ((with_reducible refine' frac_ask ?v1 ?v2 ?v3 ?v4 ?_); (case v1 => assumption); (case v2 => walk_at "subl"); (case v3 => assumption); (case v4 => walk_at "own"); intro _ _ _ _ _ _ _))

local macro_rules | `(tactic| walk_at "ask") => `(tactic| with_reducible refine' isI_int ?_)
local macro_rules | `(tactic| walk_at "ask") => `(tactic| ((with_reducible refine' mk_span ?v1 ?v2 ?v3 ?_); (case v1 => assumption); (case v2 => first | assumption | omega); (case v3 => first | assumption | omega); intro _ _ _ _))
local macro_rules | `(tactic| walk_at "ask") => `(tactic| ((with_reducible refine' mk_span1 ?v1 ?_); (case v1 => assumption); intro _ _ _ _))
local macro_rules | `(tactic| walk_at "ask") => `(tactic| ((with_reducible refine' fld_over ?v1 ?v2 ?v3 ?v4 ?_); (case v1 => assumption); (case v2 => assumption); (case v3 => assumption); (case v4 => walk_at "mem")))
local macro_rules | `(tactic| walk_at "ask") => `(tactic| ((with_reducible refine' fld_under ?v1 ?v2 ?v3 ?v4 ?_); (case v1 => assumption); (case v2 => assumption); (case v3 => assumption); (case v4 => walk_at "mem")))
local macro_rules | `(tactic| walk_at "ty") => `(tactic| exact span_ty (by assumption) (by assumption) (by walk_at "mem"))

section
variable {P : Program} {w : World} {K : PySem.W.Frag} {mg : Str → Option Value} {base : Heap}
/-! ### the operators with an object behind a Span -/
theorem binOps_mk {C : Addr} {op : Operator} {g g2 : Addr} {nl nr : Str} (e1 : PySem.dunder op.info.2 = nl) (e2 : dunderR op.info.2 = nr) (h0 : PySem.W.selfFirst K C = true) (m1 : Meth K C nl g) (m2 : Meth K C nr g2)
    (f1 : (PySem.W.findIn K (.type "int") nl).isSome = true) (f2 : (PySem.W.findIn K (.type "int") nr).isSome = true) (s1 : PySem.W.subIn K (.type "int") (.ref C) = some false) (s2 : PySem.W.subIn K (.ref C) (.type "int") = some false) : BinOps K C op g g2 := by
  subst e1 e2
  exact ⟨h0, m1.at_, m2.at_, m1.fn, m2.fn, Option.isSome_iff_exists.mp f1, Option.isSome_iff_exists.mp f2, s1, s2⟩
theorem bo_add (T : Txt K mg) : BinOps K (He.ga K "Span") .Add (He.fAd K ("Span", some "__add__")) (He.fAd K ("Span", some "__radd__")) := binOps_mk (by decide +kernel) (by decide +kernel) T.sf_Span T.m_Span_add T.m_Span_radd T.fi_add T.fi_radd T.is_Span T.su_int
theorem bo_sub (T : Txt K mg) : BinOps K (He.ga K "Span") .Sub (He.fAd K ("Span", some "__sub__")) (He.fAd K ("Span", some "__rsub__")) := binOps_mk (by decide +kernel) (by decide +kernel) T.sf_Span T.m_Span_sub T.m_Span_rsub T.fi_sub T.fi_rsub T.is_Span T.su_int
theorem bo_mul (T : Txt K mg) : BinOps K (He.ga K "Span") .Mult (He.fAd K ("Span", some "__mul__")) (He.fAd K ("Span", some "__rmul__")) := binOps_mk (by decide +kernel) (by decide +kernel) T.sf_Span T.m_Span_mul T.m_Span_rmul T.fi_mul T.fi_rmul T.is_Span T.su_int
theorem bo_floordiv (T : Txt K mg) : BinOps K (He.ga K "Span") .FloorDiv (He.fAd K ("Span", some "__floordiv__")) (He.fAd K ("Span", some "__rfloordiv__")) := binOps_mk (by decide +kernel) (by decide +kernel) T.sf_Span T.m_Span_floordiv T.m_Span_rfloordiv T.fi_floordiv T.fi_rfloordiv T.is_Span T.su_int
theorem bo_mod (T : Txt K mg) : BinOps K (He.ga K "Span") .Mod (He.fAd K ("Span", some "__mod__")) (He.fAd K ("Span", some "__rmod__")) := binOps_mk (by decide +kernel) (by decide +kernel) T.sf_Span T.m_Span_mod T.m_Span_rmod T.fi_mod T.fi_rmod T.is_Span T.su_int
/-- the tables of the defs with lambdas -/
def TL (K : PySem.W.Frag) : List (Addr × Str) := tf.map fun d => ((He.cT K d).2, d.1 ++ ".<locals>." ++ "<lambda>")
theorem tl_mem {d : He.Defn} (h : d ∈ tf) : ((He.cT K d).2, d.1 ++ ".<locals>." ++ "<lambda>") ∈ TL K := List.mem_map.mpr ⟨d, h, rfl⟩
theorem inj_of_nodup {α β : Type} {f : α → β} : ∀ {l : List α}, (l.map f).Nodup → ∀ {a b : α}, a ∈ l → b ∈ l → f a = f b → a = b
  | [], _, _, _, h, _, _ => nomatch h
  | x :: r, nd, a, b, ha, hb, e => by
    rw [List.map_cons, List.nodup_cons] at nd
    rcases List.mem_cons.mp ha with ea | ma
    · rcases List.mem_cons.mp hb with eb | mb
      · rw [ea, eb]
      · exact absurd (List.mem_map.mpr ⟨b, mb, by rw [← e, ea]⟩) nd.1
    · rcases List.mem_cons.mp hb with eb | mb
      · exact absurd (List.mem_map.mpr ⟨a, ma, by rw [e, eb]⟩) nd.1
      · exact inj_of_nodup nd.2 ma mb e
theorem tl_uniq (T : Txt K mg) {d : He.Defn} (h : d ∈ tf) : ∀ p ∈ TL K, p.1 = (He.cT K d).2 → p.2 = d.1 ++ ".<locals>." ++ "<lambda>" := fun p hp e => by
  obtain ⟨d', h', rfl⟩ := List.mem_map.mp hp
  rw [inj_of_nodup T.tabN h' h e]
structure StT (K : PySem.W.Frag) (Hb : Hp) (l : Led) (H : Hp) : Prop where
  s : Stt Hb [] l H
  tb : LamX.Tabs (TL K) H
  nl : NoTl l
section
variable {Hb H : Hp} {l l' : Led} {Q : VK} {p : Addr} {xs vs : List V} {y : V}
theorem StT.lst (s : StT K Hb l H) (hz : vs.length ≤ 100000) (k : ∀ p H1, Hb p = none → StT K Hb ((p, Is (.lst vs)) :: l) H1 → Q (.ref p) H1) : Rd.Lst vs H Q :=
  ⟨Nat.le_trans hz (by decide), fun p hp => k p _ (s.s.none hp) ⟨s.s.new hp _, tabs_kp s.tb (kp_new hp), noTl_cons (fun ps h => by cases h) s.nl⟩⟩
theorem tabs_set (t : LamX.Tabs (TL K) H) (e : H p = some (.lst xs)) {ys : List V} : LamX.Tabs (TL K) (upd H p (.lst ys)) := fun q hq => by
  obtain ⟨ps, h1, h2, h3⟩ := t q hq
  have n1 : q.1 ≠ p := fun z => by rw [z, e] at h1; cases h1
  refine ⟨ps, by rw [upd_ne n1]; exact h1, h2, fun pos cv hc => ?_⟩
  obtain ⟨c, e1, e2⟩ := h3 pos cv hc
  have n2 : c ≠ p := fun z => by
    rw [z, e] at e2
    have := Option.some.inj e2
    unfold LamX.CodeO at this
    cases this
  exact ⟨c, e1, by rw [upd_ne n2]; exact e2⟩
theorem StT.app (s : StT K Hb l H) (m : (p, Is (.lst xs)) ∈ l) (hz : xs.length < 100000) (u : Put l p (Is (.lst (xs ++ [y]))) l') (hp : Hb p = none) (k : ∀ H1, StT K Hb l' H1 → Q .non H1) : rAppend (.ref p) [y] H Q :=
  ⟨p, xs, y, rfl, rfl, s.s.get m, Nat.lt_of_lt_of_le hz (by decide), k _ ⟨s.s.set u (.inr hp), tabs_set s.tb (s.s.get m), fun e me ps he => by
    rcases u.new s.s.nd e me with q | ⟨q, _⟩
    · subst q
      cases he
    · exact s.nl e q ps he⟩⟩
theorem StT.bm {r : V → List V → Hp → VK → Prop} {t : TA} {σ : L2.St} (s : StT K Hb l H) (m : (p, Is (.lst xs)) ∈ l) (h : t σ H fun ys H2 => r (.ref p) ys H2 Q) : Rd.BM K "list" r t σ (.ref p) H Q := ⟨.inl ⟨rfl, _, s.s.sqL m⟩, h⟩
theorem lamP {t : XK → TE} {σ : L2.St} {v : V} (nT : NoT Hb) (s : StT K Hb l H) (ht : ∀ H2 (E' : XK) (Q' : VK), StT K Hb l H2 → (∀ cls d H', XP K v H2 cls d H' → E' cls d H') → t E' σ H2 Q')
    (k : ∀ r H'', Hb r = none → StT K Hb ((r, Is (.tup [.str "part", v])) :: l) H'' → Q (.ref r) H'') : LamX.tLam (TL K) (TTr K) t σ H Q :=
  lam_part nT s.nl s.s s.tb (fun H2 E' Q' s2 t2 hE => ht H2 E' Q' ⟨s2, t2, s.nl⟩ hE) fun r H'' hr s5 t5 => k r H'' hr ⟨s5, t5, noTl_cons (fun ps h => by cases h) s.nl⟩
theorem ref2 {a : Addr} {x : V} {i j : Int} {Q' : VK} {E' : XK} (s : StT K Hb l H) (hA : IsNum K Hb (.ref a) i j) (ho : IsOth x Hb) (hE : ∀ cls d H', XP K x H cls d H' → E' cls d H') : spRef2 K [.ref a, x] H Q' E' :=
  ⟨.ref a, x, x, rfl, .inl ⟨i, j, hA.kp0 s.s.keep, isOth_kp s.s.keep ho, rfl⟩, hE⟩
theorem ht_bin {C' : Addr} {sp1 sp : Sp} {E1 E : XK} {a : Addr} {x : V} {i j : Int} {σ : L2.St} {Q' : VK} (hC : C' = He.ga K "Span") (s : StT K Hb l H) (hA : IsNum K Hb (.ref a) i j) (ho : IsOth x Hb) (e0 : σ[0]? = some (some (.ref a))) (e1 : σ[1]? = some (some x)) (h : sp [.ref a, x] H Q' E) :
    tOp (fun x y H Q => rBinL C' sp1 E1 x y H Q ∨ rBinLO C' sp E x y H Q) (tVar 0) (tVar 1) σ H Q' := by
  subst hC
  rcases hA.kp0 s.s.keep with ⟨e, _⟩ | ⟨p, o, e, h1, dx, rfl⟩
  · cases e
  · cases e
    exact ⟨_, e0, _, e1, .inr ⟨a, dx, _, rfl, h1, isOth_kp s.s.keep ho, h⟩⟩
theorem oth_cmp (T : Txt K mg) {x : V} {H : Hp} (h : IsOth x H) : ∃ t, TyX K H x t ∧ PySem.W.notFirst K (He.ga K "Span") t = true := by
  rcases h with rfl | ⟨b, rfl⟩ | ⟨y, rfl⟩ | ⟨a, xs, rfl, g⟩ | ⟨a, xs, rfl, g⟩ | ⟨a, xs, rfl, g⟩
  · exact ⟨_, .base .non, T.nf_NoneType⟩
  · exact ⟨_, .base (.bl b), T.nf_bool⟩
  · exact ⟨_, .base (.str y), T.nf_str⟩
  · exact ⟨_, .base (.lst g), T.nf_list⟩
  · exact ⟨_, .base (.tup g), T.nf_tuple⟩
  · exact ⟨_, .base (.dK g), T.nf_dict⟩
theorem ht_cmp (T : Txt K mg) {sp : Sp} {E : XK} {a : Addr} {x : V} {i j : Int} {σ : L2.St} {Q' : VK} (s : StT K Hb l H) (hA : IsNum K Hb (.ref a) i j) (ho : IsOth x Hb) (e0 : σ[0]? = some (some (.ref a))) (e1 : σ[1]? = some (some x)) (h : sp [.ref a, x] H Q' E) :
    tOp (rCmpI K (He.ga K "Span") sp E) (tVar 0) (tVar 1) σ H Q' := by
  obtain ⟨t, ty, nf⟩ := oth_cmp T (isOth_kp s.s.keep ho)
  rcases hA.kp0 s.s.keep with ⟨e, _⟩ | ⟨p, o, e, h1, dx, rfl⟩
  · cases e
  · cases e
    exact ⟨_, e0, _, e1, a, dx, _, t, rfl, h1, ty, nf, h⟩
end
theorem op_K {X : Cx} {f : Value → Value → Sem Value} {r : PySem.W.Frag → R2} (hK : X.K = K) (h : OpR X f (r X.K)) : OpR X f (r K) := by
  rw [← hK]
  exact h
/-- a heap without its tables -/
def nt (H : Hp) : Hp := fun b => match H b with
  | some (.tbl _) => none
  | o => o
theorem nt_of {H : Hp} {b : Addr} {o : HO} (e : H b = some o) (n : ∀ ps, o ≠ .tbl ps) : nt H b = some o := by
  unfold nt
  rw [e]
  cases o with
  | tbl ps => exact absurd rfl (n ps)
  | _ => rfl
theorem nt_to {H : Hp} {b : Addr} {o : HO} (e : nt H b = some o) : H b = some o ∧ ∀ ps, o ≠ .tbl ps := by
  unfold nt at e
  split at e
  · cases e
  · rename_i h1
    exact ⟨e, fun ps q => h1 ps (q ▸ e)⟩
theorem nt_no {H : Hp} : NoT (nt H) := fun b ps e => (nt_to e).2 ps rfl
theorem stt_nt {H : Hp} : Stt (nt H) [] [] H := ⟨fun b o e => .inl (nt_to e).1, List.nodup_nil, fun _ h => nomatch h⟩
def spBehind (K : PySem.W.Frag) : Sp := fun vs H Q _ => ∃ (a : Addr) (i j : Int) (x : V), vs = [.ref a, x] ∧ IsNum K (nt H) (.ref a) i j ∧ IsOth x (nt H) ∧ LamX.Tabs (TL K) H ∧
  ∀ (r : Addr) (ts : List Addr) (H' : Hp), nt H r = none → Stt (nt H) [] [(r, Is (.lst (ts.map V.ref)))] H' → LamX.Tabs (TL K) H' → ts.length = 9 → (∀ t ∈ ts, nt H t = none ∧ H' t = some (.tup [.str "part", x])) → Q (.ref r) H'
local macro_rules | `(tactic| walk_at "ask") => `(tactic| first
  | ((with_reducible refine' StT.lst ?v1 ?v2 ?_); (case v1 => assumption); (case v2 => simp only [List.length_cons, List.length_nil]; decide); intro _ _ _ _)
  | ((with_reducible refine' StT.bm ?v1 ?v2 ?_); (case v1 => assumption); (case v2 => walk_at "mem"))
  | ((with_reducible refine' StT.app ?v1 ?v2 ?v3 ?v4 ?v5 ?_); (case v1 => assumption); (case v2 => walk_at "mem"); (case v3 => simp only [List.length_cons, List.length_nil, List.length_append]; omega); (case v4 => walk_at "put"); (case v5 => assumption); intro _ _))
local macro_rules | `(tactic| walk_at "ht") => `(tactic| first
  | exact ht_bin rfl (by assumption) (by assumption) (by assumption) rfl rfl (Or.inr (ref2 (by assumption) (by assumption) (by assumption) (by assumption)))
  | exact ht_bin rfl (by assumption) (by assumption) (by assumption) rfl rfl (Or.inr (Or.inl (ref2 (by assumption) (by assumption) (by assumption) (by assumption))))
  | exact ht_cmp (by assumption) (by assumption) (by assumption) (by assumption) rfl rfl (Or.inr (ref2 (by assumption) (by assumption) (by assumption) (by assumption))))
local macro_rules | `(tactic| walk_at "ask") => `(tactic| ((with_reducible refine' lamP ?v0 ?v1 ?v2 ?_); (case v0 => assumption); (case v1 => assumption); (case v2 => intro _ _ _ _ _; walk_at "ht"); intro _ _ _ _))
theorem ok_l_behindO (T : Txt K mg) (hT : ∀ p ∈ cts tf K, LamX.TabB base mg p.1 p.2) : FnOk P w K mg base CX0 11 (He.fAd K ("_law_behind", none)) T.fd_l_behind ["_law_a", "_law_x"] (spBehind K) := by
  refine okC (p := ("_law_behind", none)) T.F_l_behind sc_l_behind (fun vs H Q E h => ?_) (fun A outer s H vs Q E hr h => ?_)
  · obtain ⟨a, i, j, x, rfl, _⟩ := h
    rfl
  · obtain ⟨a, i, j, x, rfl, hA, ho, tb, k⟩ := h
    refine ⟨_, PSs.nox (pss_cons (ps_asg (pe_lst (pa_cons (pe_tried (k := 8) T rfl (hT _ (List.mem_map.mpr ⟨("_law_behind", none), by decide, rfl⟩)) rfl (tl_mem (d := ("_law_behind", none)) (by decide)) (tl_uniq T (d := ("_law_behind", none)) (by decide)) hr (LamX.lamS_by (show LamX.lamSB (defScope s_l_behind) _ = true by decide +kernel)) rfl (fun _ _ _ _ _ => rfl) (fun A outer s H E f c' hr2 => (by exact pe_op (op_both (op_binL (bo_add T) (ok_Span_addC T) T.b_Span_add (hr2.mono (by decide)) (passes_call (takes_of rfl rfl rfl rfl) (fun _ _ _ _ h => h))) (op_binLO (bo_add T) T.od_add (ok_Span_addC T) T.b_Span_add (hr2.mono (by decide)) (passes_call (takes_of rfl rfl rfl rfl) (fun _ _ _ _ h => h)))) (pv 0) (pv 1)))) pa_nil)) (pg_name (i := 2) sc_l_behind.nd rfl (by first | exact Or.inl rfl | exact Or.inr rfl)))
  (pss_cons (ps_expr (pe_bm PySem.F.plainAttrs_list PySem.F.slot_list_append PySem.F.type_list_append mt_append (pv 2) (pa_cons (pe_tried (k := 8) T rfl (hT _ (List.mem_map.mpr ⟨("_law_behind", none), by decide, rfl⟩)) rfl (tl_mem (d := ("_law_behind", none)) (by decide)) (tl_uniq T (d := ("_law_behind", none)) (by decide)) hr (LamX.lamS_by (show LamX.lamSB (defScope s_l_behind) _ = true by decide +kernel)) rfl (fun _ _ _ _ _ => rfl) (fun A outer s H E f c' hr2 => (by exact pe_op (op_both (op_binL (bo_sub T) (ok_Span_subC T) T.b_Span_sub (hr2.mono (by decide)) (passes_call (takes_of rfl rfl rfl rfl) (fun _ _ _ _ h => h))) (op_binLO (bo_sub T) T.od_sub (ok_Span_subC T) T.b_Span_sub (hr2.mono (by decide)) (passes_call (takes_of rfl rfl rfl rfl) (fun _ _ _ _ h => h)))) (pv 0) (pv 1)))) pa_nil)))
  (pss_cons (ps_expr (pe_bm PySem.F.plainAttrs_list PySem.F.slot_list_append PySem.F.type_list_append mt_append (pv 2) (pa_cons (pe_tried (k := 8) T rfl (hT _ (List.mem_map.mpr ⟨("_law_behind", none), by decide, rfl⟩)) rfl (tl_mem (d := ("_law_behind", none)) (by decide)) (tl_uniq T (d := ("_law_behind", none)) (by decide)) hr (LamX.lamS_by (show LamX.lamSB (defScope s_l_behind) _ = true by decide +kernel)) rfl (fun _ _ _ _ _ => rfl) (fun A outer s H E f c' hr2 => (by exact pe_op (op_both (op_binL (bo_mul T) (ok_Span_mulC T) T.b_Span_mul (hr2.mono (by decide)) (passes_call (takes_of rfl rfl rfl rfl) (fun _ _ _ _ h => h))) (op_binLO (bo_mul T) T.od_mul (ok_Span_mulC T) T.b_Span_mul (hr2.mono (by decide)) (passes_call (takes_of rfl rfl rfl rfl) (fun _ _ _ _ h => h)))) (pv 0) (pv 1)))) pa_nil)))
  (pss_cons (ps_expr (pe_bm PySem.F.plainAttrs_list PySem.F.slot_list_append PySem.F.type_list_append mt_append (pv 2) (pa_cons (pe_tried (k := 8) T rfl (hT _ (List.mem_map.mpr ⟨("_law_behind", none), by decide, rfl⟩)) rfl (tl_mem (d := ("_law_behind", none)) (by decide)) (tl_uniq T (d := ("_law_behind", none)) (by decide)) hr (LamX.lamS_by (show LamX.lamSB (defScope s_l_behind) _ = true by decide +kernel)) rfl (fun _ _ _ _ _ => rfl) (fun A outer s H E f c' hr2 => (by exact pe_op (op_both (op_binL (bo_floordiv T) (ok_Span_floordivC T) T.b_Span_floordiv (hr2.mono (by decide)) (passes_call (takes_of rfl rfl rfl rfl) (fun _ _ _ _ h => h))) (op_binLO (bo_floordiv T) T.od_floordiv (ok_Span_floordivC T) T.b_Span_floordiv (hr2.mono (by decide)) (passes_call (takes_of rfl rfl rfl rfl) (fun _ _ _ _ h => h)))) (pv 0) (pv 1)))) pa_nil)))
  (pss_cons (ps_expr (pe_bm PySem.F.plainAttrs_list PySem.F.slot_list_append PySem.F.type_list_append mt_append (pv 2) (pa_cons (pe_tried (k := 8) T rfl (hT _ (List.mem_map.mpr ⟨("_law_behind", none), by decide, rfl⟩)) rfl (tl_mem (d := ("_law_behind", none)) (by decide)) (tl_uniq T (d := ("_law_behind", none)) (by decide)) hr (LamX.lamS_by (show LamX.lamSB (defScope s_l_behind) _ = true by decide +kernel)) rfl (fun _ _ _ _ _ => rfl) (fun A outer s H E f c' hr2 => (by exact pe_op (op_both (op_binL (bo_mod T) (ok_Span_modC T) T.b_Span_mod (hr2.mono (by decide)) (passes_call (takes_of rfl rfl rfl rfl) (fun _ _ _ _ h => h))) (op_binLO (bo_mod T) T.od_mod (ok_Span_modC T) T.b_Span_mod (hr2.mono (by decide)) (passes_call (takes_of rfl rfl rfl rfl) (fun _ _ _ _ h => h)))) (pv 0) (pv 1)))) pa_nil)))
  (pss_cons (ps_expr (pe_bm PySem.F.plainAttrs_list PySem.F.slot_list_append PySem.F.type_list_append mt_append (pv 2) (pa_cons (pe_tried (k := 8) T rfl (hT _ (List.mem_map.mpr ⟨("_law_behind", none), by decide, rfl⟩)) rfl (tl_mem (d := ("_law_behind", none)) (by decide)) (tl_uniq T (d := ("_law_behind", none)) (by decide)) hr (LamX.lamS_by (show LamX.lamSB (defScope s_l_behind) _ = true by decide +kernel)) rfl (fun _ _ _ _ _ => rfl) (fun A outer s H E f c' hr2 => (by exact pe_cmpR (op_K (K := K) (r := fun K1 => rCmpI K1 (He.ga K "Span") (spCmpC K) E) rfl (by exact op_cmpI (op := .Lt) (fun _ _ => rfl) T.m_Span_lt.at_ T.m_Span_lt.fn (ok_Span_ltC T) T.b_Span_lt (hr2.mono (by decide)) (passes_call (takes_of rfl rfl rfl rfl) (fun _ _ _ _ h => h)))) (pv 0) (pv 1) (nomark _)))) pa_nil)))
  (pss_cons (ps_expr (pe_bm PySem.F.plainAttrs_list PySem.F.slot_list_append PySem.F.type_list_append mt_append (pv 2) (pa_cons (pe_tried (k := 8) T rfl (hT _ (List.mem_map.mpr ⟨("_law_behind", none), by decide, rfl⟩)) rfl (tl_mem (d := ("_law_behind", none)) (by decide)) (tl_uniq T (d := ("_law_behind", none)) (by decide)) hr (LamX.lamS_by (show LamX.lamSB (defScope s_l_behind) _ = true by decide +kernel)) rfl (fun _ _ _ _ _ => rfl) (fun A outer s H E f c' hr2 => (by exact pe_cmpR (op_K (K := K) (r := fun K1 => rCmpI K1 (He.ga K "Span") (spCmpC K) E) rfl (by exact op_cmpI (op := .LtE) (fun _ _ => rfl) T.m_Span_le.at_ T.m_Span_le.fn (ok_Span_leC T) T.b_Span_le (hr2.mono (by decide)) (passes_call (takes_of rfl rfl rfl rfl) (fun _ _ _ _ h => h)))) (pv 0) (pv 1) (nomark _)))) pa_nil)))
  (pss_cons (ps_expr (pe_bm PySem.F.plainAttrs_list PySem.F.slot_list_append PySem.F.type_list_append mt_append (pv 2) (pa_cons (pe_tried (k := 8) T rfl (hT _ (List.mem_map.mpr ⟨("_law_behind", none), by decide, rfl⟩)) rfl (tl_mem (d := ("_law_behind", none)) (by decide)) (tl_uniq T (d := ("_law_behind", none)) (by decide)) hr (LamX.lamS_by (show LamX.lamSB (defScope s_l_behind) _ = true by decide +kernel)) rfl (fun _ _ _ _ _ => rfl) (fun A outer s H E f c' hr2 => (by exact pe_cmpR (op_K (K := K) (r := fun K1 => rCmpI K1 (He.ga K "Span") (spCmpC K) E) rfl (by exact op_cmpI (op := .Gt) (fun _ _ => rfl) T.m_Span_gt.at_ T.m_Span_gt.fn (ok_Span_gtC T) T.b_Span_gt (hr2.mono (by decide)) (passes_call (takes_of rfl rfl rfl rfl) (fun _ _ _ _ h => h)))) (pv 0) (pv 1) (nomark _)))) pa_nil)))
  (pss_cons (ps_expr (pe_bm PySem.F.plainAttrs_list PySem.F.slot_list_append PySem.F.type_list_append mt_append (pv 2) (pa_cons (pe_tried (k := 8) T rfl (hT _ (List.mem_map.mpr ⟨("_law_behind", none), by decide, rfl⟩)) rfl (tl_mem (d := ("_law_behind", none)) (by decide)) (tl_uniq T (d := ("_law_behind", none)) (by decide)) hr (LamX.lamS_by (show LamX.lamSB (defScope s_l_behind) _ = true by decide +kernel)) rfl (fun _ _ _ _ _ => rfl) (fun A outer s H E f c' hr2 => (by exact pe_cmpR (op_K (K := K) (r := fun K1 => rCmpI K1 (He.ga K "Span") (spCmpC K) E) rfl (by exact op_cmpI (op := .GtE) (fun _ _ => rfl) T.m_Span_ge.at_ T.m_Span_ge.fn (ok_Span_geC T) T.b_Span_ge (hr2.mono (by decide)) (passes_call (takes_of rfl rfl rfl rfl) (fun _ _ _ _ h => h)))) (pv 0) (pv 1) (nomark _)))) pa_nil)))
  (pss_one (ps_ret (pv 2)))))))))))), ?_⟩
    walk_at "k"
    have nT : NoT (nt H) := nt_no
    have s0 : StT K (nt H) [] H := ⟨stt_nt, tb, noTl_nil⟩
    walk_at "rd"
    rename_i r0 G0 n0 t0 p Gp np tp r1 G1 n1 t1 J1 u1 r2 G2 n2 t2 J2 u2 r3 G3 n3 t3 J3 u3 r4 G4 n4 t4 J4 u4 r5 G5 n5 t5 J5 u5 r6 G6 n6 t6 J6 u6 r7 G7 n7 t7 J7 u7 r8 G8 n8 t8 J8 u8
    refine k p [r0, r1, r2, r3, r4, r5, r6, r7, r8] _ np (u8.s.sub (List.Sublist.cons _ (List.Sublist.cons _ (List.Sublist.cons _ (List.Sublist.cons _ (List.Sublist.cons _ (List.Sublist.cons _ (List.Sublist.cons _ (List.Sublist.cons _ (List.Sublist.cons₂ _ (List.nil_sublist _))))))))))) u8.tb rfl ?_
    exact List.forall_mem_cons.mpr ⟨⟨n0, u8.s.get (by walk_at "mem")⟩, List.forall_mem_cons.mpr ⟨⟨n1, u8.s.get (by walk_at "mem")⟩, List.forall_mem_cons.mpr ⟨⟨n2, u8.s.get (by walk_at "mem")⟩, List.forall_mem_cons.mpr ⟨⟨n3, u8.s.get (by walk_at "mem")⟩, List.forall_mem_cons.mpr ⟨⟨n4, u8.s.get (by walk_at "mem")⟩, List.forall_mem_cons.mpr ⟨⟨n5, u8.s.get (by walk_at "mem")⟩, List.forall_mem_cons.mpr ⟨⟨n6, u8.s.get (by walk_at "mem")⟩, List.forall_mem_cons.mpr ⟨⟨n7, u8.s.get (by walk_at "mem")⟩, List.forall_mem_cons.mpr ⟨⟨n8, u8.s.get (by walk_at "mem")⟩, fun _ h => nomatch h⟩⟩⟩⟩⟩⟩⟩⟩⟩
/-- with a number it goes -/
def spBehindN (K : PySem.W.Frag) : Sp := fun vs H Q _ => ∃ (a : Addr) (i j z : Int), vs = [.ref a, .int z] ∧ IsNum K (nt H) (.ref a) i j ∧ (j ≠ 0 ∧ z ≠ 0 ∧ i.natAbs < 2 ^ 200 ∧ j.natAbs < 2 ^ 200 ∧ z.natAbs < 2 ^ 200) ∧ LamX.Tabs (TL K) H ∧
  ∀ (r : Addr) (ts : List Addr) (H' : Hp), nt H r = none → Stt (nt H) [] [(r, Is (.lst (ts.map V.ref)))] H' → LamX.Tabs (TL K) H' → ts.length = 9 → (∀ t ∈ ts, nt H t = none ∧ H' t = some (.tup [.str "goes"])) → Q (.ref r) H'
section
variable {Hb H : Hp} {l : Led} {Q : VK}
theorem lamG {t : XK → TE} {σ : L2.St} (nT : NoT Hb) (s : StT K Hb l H) (ht : ∀ H2 (E' : XK) (Q' : VK), StT K Hb l H2 → (∀ v H', Kp [] H2 H' → Q' v H') → t E' σ H2 Q')
    (k : ∀ r H'', Hb r = none → StT K Hb ((r, Is (.tup [.str "goes"])) :: l) H'' → Q (.ref r) H'') : LamX.tLam (TL K) (TTr K) t σ H Q :=
  lam_goes nT s.nl s.s s.tb (fun H2 E' Q' s2 t2 hQ => ht H2 E' Q' ⟨s2, t2, s.nl⟩ hQ) fun r H'' hr s5 t5 => k r H'' hr ⟨s5, t5, noTl_cons (fun ps h => by cases h) s.nl⟩
theorem arG {a : Addr} {i j z : Int} (s : StT K Hb l H) (hA : IsNum K Hb (.ref a) i j) (hz : j ≠ 0 ∧ z ≠ 0 ∧ i.natAbs < 2 ^ 200 ∧ j.natAbs < 2 ^ 200 ∧ z.natAbs < 2 ^ 200) : Ar K H (.ref a) (.int z) i j z 1 :=
  ⟨hA.kp0 s.s.keep, .int, hz.1, by decide, hz.2.2.1, hz.2.2.2.1, hz.2.2.2.2, by decide⟩
theorem ht_binG {C' : Addr} {sp1 sp : Sp} {E1 E : XK} {a : Addr} {z : Int} {i j : Int} {σ : L2.St} {Q' : VK} (hC : C' = He.ga K "Span") (s : StT K Hb l H) (hA : IsNum K Hb (.ref a) i j) (e0 : σ[0]? = some (some (.ref a))) (e1 : σ[1]? = some (some (.int z))) (h : sp1 [.ref a, .int z] H Q' E1) :
    tOp (fun x y H Q => rBinL C' sp1 E1 x y H Q ∨ rBinLO C' sp E x y H Q) (tVar 0) (tVar 1) σ H Q' := by
  subst hC
  rcases hA.kp0 s.s.keep with ⟨e, _⟩ | ⟨p, o, e, h1, dx, rfl⟩
  · cases e
  · cases e
    exact ⟨_, e0, _, e1, .inl ⟨a, dx, _, rfl, h1, .inl ⟨z, rfl⟩, h⟩⟩
theorem ht_cmpG (T : Txt K mg) {sp : Sp} {E : XK} {a : Addr} {z : Int} {i j : Int} {σ : L2.St} {Q' : VK} (s : StT K Hb l H) (hA : IsNum K Hb (.ref a) i j) (e0 : σ[0]? = some (some (.ref a))) (e1 : σ[1]? = some (some (.int z))) (h : sp [.ref a, .int z] H Q' E) :
    tOp (rCmpI K (He.ga K "Span") sp E) (tVar 0) (tVar 1) σ H Q' := by
  rcases hA.kp0 s.s.keep with ⟨e, _⟩ | ⟨p, o, e, h1, dx, rfl⟩
  · cases e
  · cases e
    exact ⟨_, e0, _, e1, a, dx, _, _, rfl, h1, .base (.int z), T.nf_int, h⟩
theorem arSpG {N D : Int → Int → Int → Int → Int} {x y : V} {a b c d : Int} {Q' : VK} {E : XK} (h : Ar K H x y a b c d) (hQ : ∀ v H', Kp [] H H' → Q' v H') : spAr K N D [x, y] H Q' E := ⟨x, y, a, b, c, d, rfl, h, fun p H' _ s => hQ _ _ s.keep⟩
theorem quoSpG {x y : V} {a b c d : Int} {Q' : VK} {E : XK} (h : Ar K H x y a b c d) (hc : c ≠ 0) (hQ : ∀ v H', Kp [] H H' → Q' v H') : spQuo K [x, y] H Q' E := ⟨x, y, a, b, c, d, rfl, h, hc, fun H' k => hQ _ _ k⟩
theorem remSpG {x y : V} {a b c d : Int} {Q' : VK} {E : XK} (h : Ar K H x y a b c d) (hc : c ≠ 0) (hQ : ∀ v H', Kp [] H H' → Q' v H') : spRem K [x, y] H Q' E := ⟨x, y, a, b, c, d, rfl, h, hc, fun p H' _ s => hQ _ _ s.keep⟩
theorem gapSpG {x y : V} {a b c d : Int} {Q' : VK} {E : XK} (h : Ar K H x y a b c d) (hQ : ∀ v H', Kp [] H H' → Q' v H') : spGap K [x, y] H (fun v H' => ∃ z, v = .int z ∧ ∀ b, Q' (.bl b) H') E :=
  ⟨x, y, a, b, c, d, rfl, h.x, h.y, ⟨up h.a2 (by decide), up h.b2 (by decide), up h.c2 (by decide), up h.d2 (by decide)⟩, fun H' k => ⟨_, rfl, fun b => hQ _ _ k⟩⟩
end
local macro_rules | `(tactic| walk_at "ht") => `(tactic| first
  | exact ht_binG rfl (by assumption) (by assumption) rfl rfl (Or.inl (arSpG (arG (by assumption) (by assumption) (by assumption)) (by assumption)))
  | exact ht_binG rfl (by assumption) (by assumption) rfl rfl (Or.inl (quoSpG (arG (by assumption) (by assumption) (by assumption)) (by assumption) (by assumption)))
  | exact ht_binG rfl (by assumption) (by assumption) rfl rfl (Or.inl (remSpG (arG (by assumption) (by assumption) (by assumption)) (by assumption) (by assumption)))
  | exact ht_cmpG (by assumption) (by assumption) (by assumption) rfl rfl (Or.inl (gapSpG (arG (by assumption) (by assumption) (by assumption)) (by assumption))))
local macro_rules | `(tactic| walk_at "ask") => `(tactic| ((with_reducible refine' lamG ?v0 ?v1 ?v2 ?_); (case v0 => assumption); (case v1 => assumption); (case v2 => intro _ _ _ _ _; walk_at "ht"); intro _ _ _ _))
theorem ok_l_behindN (T : Txt K mg) (hT : ∀ p ∈ cts tf K, LamX.TabB base mg p.1 p.2) : FnOk P w K mg base CX0 11 (He.fAd K ("_law_behind", none)) T.fd_l_behind ["_law_a", "_law_x"] (spBehindN K) := by
  refine okC (p := ("_law_behind", none)) T.F_l_behind sc_l_behind (fun vs H Q E h => ?_) (fun A outer s H vs Q E hr h => ?_)
  · obtain ⟨a, i, j, z, rfl, _⟩ := h
    rfl
  · obtain ⟨a, i, j, z, rfl, hA, hz, tb, k⟩ := h
    refine ⟨_, PSs.nox (pss_cons (ps_asg (pe_lst (pa_cons (pe_tried (k := 8) T rfl (hT _ (List.mem_map.mpr ⟨("_law_behind", none), by decide, rfl⟩)) rfl (tl_mem (d := ("_law_behind", none)) (by decide)) (tl_uniq T (d := ("_law_behind", none)) (by decide)) hr (LamX.lamS_by (show LamX.lamSB (defScope s_l_behind) _ = true by decide +kernel)) rfl (fun _ _ _ _ _ => rfl) (fun A outer s H E f c' hr2 => (by exact pe_op (op_both (op_binL (bo_add T) (ok_Span_addC T) T.b_Span_add (hr2.mono (by decide)) (passes_call (takes_of rfl rfl rfl rfl) (fun _ _ _ _ h => h))) (op_binLO (bo_add T) T.od_add (ok_Span_addC T) T.b_Span_add (hr2.mono (by decide)) (passes_call (takes_of rfl rfl rfl rfl) (fun _ _ _ _ h => h)))) (pv 0) (pv 1)))) pa_nil)) (pg_name (i := 2) sc_l_behind.nd rfl (by first | exact Or.inl rfl | exact Or.inr rfl)))
  (pss_cons (ps_expr (pe_bm PySem.F.plainAttrs_list PySem.F.slot_list_append PySem.F.type_list_append mt_append (pv 2) (pa_cons (pe_tried (k := 8) T rfl (hT _ (List.mem_map.mpr ⟨("_law_behind", none), by decide, rfl⟩)) rfl (tl_mem (d := ("_law_behind", none)) (by decide)) (tl_uniq T (d := ("_law_behind", none)) (by decide)) hr (LamX.lamS_by (show LamX.lamSB (defScope s_l_behind) _ = true by decide +kernel)) rfl (fun _ _ _ _ _ => rfl) (fun A outer s H E f c' hr2 => (by exact pe_op (op_both (op_binL (bo_sub T) (ok_Span_subC T) T.b_Span_sub (hr2.mono (by decide)) (passes_call (takes_of rfl rfl rfl rfl) (fun _ _ _ _ h => h))) (op_binLO (bo_sub T) T.od_sub (ok_Span_subC T) T.b_Span_sub (hr2.mono (by decide)) (passes_call (takes_of rfl rfl rfl rfl) (fun _ _ _ _ h => h)))) (pv 0) (pv 1)))) pa_nil)))
  (pss_cons (ps_expr (pe_bm PySem.F.plainAttrs_list PySem.F.slot_list_append PySem.F.type_list_append mt_append (pv 2) (pa_cons (pe_tried (k := 8) T rfl (hT _ (List.mem_map.mpr ⟨("_law_behind", none), by decide, rfl⟩)) rfl (tl_mem (d := ("_law_behind", none)) (by decide)) (tl_uniq T (d := ("_law_behind", none)) (by decide)) hr (LamX.lamS_by (show LamX.lamSB (defScope s_l_behind) _ = true by decide +kernel)) rfl (fun _ _ _ _ _ => rfl) (fun A outer s H E f c' hr2 => (by exact pe_op (op_both (op_binL (bo_mul T) (ok_Span_mulC T) T.b_Span_mul (hr2.mono (by decide)) (passes_call (takes_of rfl rfl rfl rfl) (fun _ _ _ _ h => h))) (op_binLO (bo_mul T) T.od_mul (ok_Span_mulC T) T.b_Span_mul (hr2.mono (by decide)) (passes_call (takes_of rfl rfl rfl rfl) (fun _ _ _ _ h => h)))) (pv 0) (pv 1)))) pa_nil)))
  (pss_cons (ps_expr (pe_bm PySem.F.plainAttrs_list PySem.F.slot_list_append PySem.F.type_list_append mt_append (pv 2) (pa_cons (pe_tried (k := 8) T rfl (hT _ (List.mem_map.mpr ⟨("_law_behind", none), by decide, rfl⟩)) rfl (tl_mem (d := ("_law_behind", none)) (by decide)) (tl_uniq T (d := ("_law_behind", none)) (by decide)) hr (LamX.lamS_by (show LamX.lamSB (defScope s_l_behind) _ = true by decide +kernel)) rfl (fun _ _ _ _ _ => rfl) (fun A outer s H E f c' hr2 => (by exact pe_op (op_both (op_binL (bo_floordiv T) (ok_Span_floordivC T) T.b_Span_floordiv (hr2.mono (by decide)) (passes_call (takes_of rfl rfl rfl rfl) (fun _ _ _ _ h => h))) (op_binLO (bo_floordiv T) T.od_floordiv (ok_Span_floordivC T) T.b_Span_floordiv (hr2.mono (by decide)) (passes_call (takes_of rfl rfl rfl rfl) (fun _ _ _ _ h => h)))) (pv 0) (pv 1)))) pa_nil)))
  (pss_cons (ps_expr (pe_bm PySem.F.plainAttrs_list PySem.F.slot_list_append PySem.F.type_list_append mt_append (pv 2) (pa_cons (pe_tried (k := 8) T rfl (hT _ (List.mem_map.mpr ⟨("_law_behind", none), by decide, rfl⟩)) rfl (tl_mem (d := ("_law_behind", none)) (by decide)) (tl_uniq T (d := ("_law_behind", none)) (by decide)) hr (LamX.lamS_by (show LamX.lamSB (defScope s_l_behind) _ = true by decide +kernel)) rfl (fun _ _ _ _ _ => rfl) (fun A outer s H E f c' hr2 => (by exact pe_op (op_both (op_binL (bo_mod T) (ok_Span_modC T) T.b_Span_mod (hr2.mono (by decide)) (passes_call (takes_of rfl rfl rfl rfl) (fun _ _ _ _ h => h))) (op_binLO (bo_mod T) T.od_mod (ok_Span_modC T) T.b_Span_mod (hr2.mono (by decide)) (passes_call (takes_of rfl rfl rfl rfl) (fun _ _ _ _ h => h)))) (pv 0) (pv 1)))) pa_nil)))
  (pss_cons (ps_expr (pe_bm PySem.F.plainAttrs_list PySem.F.slot_list_append PySem.F.type_list_append mt_append (pv 2) (pa_cons (pe_tried (k := 8) T rfl (hT _ (List.mem_map.mpr ⟨("_law_behind", none), by decide, rfl⟩)) rfl (tl_mem (d := ("_law_behind", none)) (by decide)) (tl_uniq T (d := ("_law_behind", none)) (by decide)) hr (LamX.lamS_by (show LamX.lamSB (defScope s_l_behind) _ = true by decide +kernel)) rfl (fun _ _ _ _ _ => rfl) (fun A outer s H E f c' hr2 => (by exact pe_cmpR (op_K (K := K) (r := fun K1 => rCmpI K1 (He.ga K "Span") (spCmpC K) E) rfl (by exact op_cmpI (op := .Lt) (fun _ _ => rfl) T.m_Span_lt.at_ T.m_Span_lt.fn (ok_Span_ltC T) T.b_Span_lt (hr2.mono (by decide)) (passes_call (takes_of rfl rfl rfl rfl) (fun _ _ _ _ h => h)))) (pv 0) (pv 1) (nomark _)))) pa_nil)))
  (pss_cons (ps_expr (pe_bm PySem.F.plainAttrs_list PySem.F.slot_list_append PySem.F.type_list_append mt_append (pv 2) (pa_cons (pe_tried (k := 8) T rfl (hT _ (List.mem_map.mpr ⟨("_law_behind", none), by decide, rfl⟩)) rfl (tl_mem (d := ("_law_behind", none)) (by decide)) (tl_uniq T (d := ("_law_behind", none)) (by decide)) hr (LamX.lamS_by (show LamX.lamSB (defScope s_l_behind) _ = true by decide +kernel)) rfl (fun _ _ _ _ _ => rfl) (fun A outer s H E f c' hr2 => (by exact pe_cmpR (op_K (K := K) (r := fun K1 => rCmpI K1 (He.ga K "Span") (spCmpC K) E) rfl (by exact op_cmpI (op := .LtE) (fun _ _ => rfl) T.m_Span_le.at_ T.m_Span_le.fn (ok_Span_leC T) T.b_Span_le (hr2.mono (by decide)) (passes_call (takes_of rfl rfl rfl rfl) (fun _ _ _ _ h => h)))) (pv 0) (pv 1) (nomark _)))) pa_nil)))
  (pss_cons (ps_expr (pe_bm PySem.F.plainAttrs_list PySem.F.slot_list_append PySem.F.type_list_append mt_append (pv 2) (pa_cons (pe_tried (k := 8) T rfl (hT _ (List.mem_map.mpr ⟨("_law_behind", none), by decide, rfl⟩)) rfl (tl_mem (d := ("_law_behind", none)) (by decide)) (tl_uniq T (d := ("_law_behind", none)) (by decide)) hr (LamX.lamS_by (show LamX.lamSB (defScope s_l_behind) _ = true by decide +kernel)) rfl (fun _ _ _ _ _ => rfl) (fun A outer s H E f c' hr2 => (by exact pe_cmpR (op_K (K := K) (r := fun K1 => rCmpI K1 (He.ga K "Span") (spCmpC K) E) rfl (by exact op_cmpI (op := .Gt) (fun _ _ => rfl) T.m_Span_gt.at_ T.m_Span_gt.fn (ok_Span_gtC T) T.b_Span_gt (hr2.mono (by decide)) (passes_call (takes_of rfl rfl rfl rfl) (fun _ _ _ _ h => h)))) (pv 0) (pv 1) (nomark _)))) pa_nil)))
  (pss_cons (ps_expr (pe_bm PySem.F.plainAttrs_list PySem.F.slot_list_append PySem.F.type_list_append mt_append (pv 2) (pa_cons (pe_tried (k := 8) T rfl (hT _ (List.mem_map.mpr ⟨("_law_behind", none), by decide, rfl⟩)) rfl (tl_mem (d := ("_law_behind", none)) (by decide)) (tl_uniq T (d := ("_law_behind", none)) (by decide)) hr (LamX.lamS_by (show LamX.lamSB (defScope s_l_behind) _ = true by decide +kernel)) rfl (fun _ _ _ _ _ => rfl) (fun A outer s H E f c' hr2 => (by exact pe_cmpR (op_K (K := K) (r := fun K1 => rCmpI K1 (He.ga K "Span") (spCmpC K) E) rfl (by exact op_cmpI (op := .GtE) (fun _ _ => rfl) T.m_Span_ge.at_ T.m_Span_ge.fn (ok_Span_geC T) T.b_Span_ge (hr2.mono (by decide)) (passes_call (takes_of rfl rfl rfl rfl) (fun _ _ _ _ h => h)))) (pv 0) (pv 1) (nomark _)))) pa_nil)))
  (pss_one (ps_ret (pv 2)))))))))))), ?_⟩
    walk_at "k"
    have nT : NoT (nt H) := nt_no
    have hz2 := hz.2.1
    have s0 : StT K (nt H) [] H := ⟨stt_nt, tb, noTl_nil⟩
    walk_at "rd"
    rename_i r0 G0 n0 t0 p Gp np tp r1 G1 n1 t1 J1 u1 r2 G2 n2 t2 J2 u2 r3 G3 n3 t3 J3 u3 r4 G4 n4 t4 J4 u4 r5 G5 n5 t5 J5 u5 r6 G6 n6 t6 J6 u6 r7 G7 n7 t7 J7 u7 r8 G8 n8 t8 J8 u8
    refine k p [r0, r1, r2, r3, r4, r5, r6, r7, r8] _ np (u8.s.sub (List.Sublist.cons _ (List.Sublist.cons _ (List.Sublist.cons _ (List.Sublist.cons _ (List.Sublist.cons _ (List.Sublist.cons _ (List.Sublist.cons _ (List.Sublist.cons _ (List.Sublist.cons₂ _ (List.nil_sublist _))))))))))) u8.tb rfl ?_
    exact List.forall_mem_cons.mpr ⟨⟨n0, u8.s.get (by walk_at "mem")⟩, List.forall_mem_cons.mpr ⟨⟨n1, u8.s.get (by walk_at "mem")⟩, List.forall_mem_cons.mpr ⟨⟨n2, u8.s.get (by walk_at "mem")⟩, List.forall_mem_cons.mpr ⟨⟨n3, u8.s.get (by walk_at "mem")⟩, List.forall_mem_cons.mpr ⟨⟨n4, u8.s.get (by walk_at "mem")⟩, List.forall_mem_cons.mpr ⟨⟨n5, u8.s.get (by walk_at "mem")⟩, List.forall_mem_cons.mpr ⟨⟨n6, u8.s.get (by walk_at "mem")⟩, List.forall_mem_cons.mpr ⟨⟨n7, u8.s.get (by walk_at "mem")⟩, List.forall_mem_cons.mpr ⟨⟨n8, u8.s.get (by walk_at "mem")⟩, fun _ h => nomatch h⟩⟩⟩⟩⟩⟩⟩⟩⟩
end

end
section
local macro_rules | `(tactic| walk_at "subl") => `(tactic| first | with_reducible exact List.nil_sublist _ | with_reducible exact List.Sublist.refl _ | (with_reducible refine List.Sublist.cons₂ _ ?_; walk_at "subl") | (with_reducible refine List.Sublist.cons _ ?_; walk_at "subl"))
local macro_rules | `(tactic| walk_at "k") => `(tactic| try dsimp only [L2.cxOf, L2.Cx.nox, L2.Cx.wish, L2.Cx.blk])
local macro_rules | `(tactic| walk_at "ask") => `(tactic| fail)
local macro_rules | `(tactic| walk_at "mem") => `(tactic| first | with_reducible exact List.mem_cons_self | (with_reducible apply List.mem_cons_of_mem; walk_at "mem"))
local macro_rules | `(tactic| walk_at "put") => `(tactic| first | with_reducible exact Lt.Put.head | (with_reducible apply Lt.Put.tail; walk_at "put"))
local macro_rules | `(tactic| walk_at "own") => `(tactic| first | exact Or.inr (by assumption) | exact Or.inl (by walk_at "mem"))
local macro_rules | `(tactic| walk_at "cnd") => `(tactic| first | assumption | decide | ((try dsimp only); omega) | (unfold CMul; omega) | (unfold CDiv; omega) | (unfold CPow; omega) | exact Or.inr (by decide) | exact Or.inl (by decide) | exact wide_div (b := 128) (by omega) (by omega) (by decide) (by decide))
local macro_rules | `(tactic| walk_at "at") => `(tactic| first | exact rfl | assumption)
local macro_rules | `(tactic| walk_at "kit") => `(tactic| first | assumption | exact kit_int_int | exact kit_int_bool | exact kit_int_str | exact kit_int_list | exact kit_int_tuple | exact kit_int_dict | exact kit_bool_int | exact kit_bool_bool | exact kit_bool_str | exact kit_bool_list | exact kit_bool_tuple | exact kit_bool_dict | exact kit_str_int | exact kit_str_bool | exact kit_str_str | exact kit_str_list | exact kit_str_tuple | exact kit_str_dict | exact kit_list_int | exact kit_list_bool | exact kit_list_str | exact kit_list_list | exact kit_list_tuple | exact kit_list_dict | exact kit_tuple_int | exact kit_tuple_bool | exact kit_tuple_str | exact kit_tuple_list | exact kit_tuple_tuple | exact kit_tuple_dict | exact kit_dict_int | exact kit_dict_bool | exact kit_dict_str | exact kit_dict_list | exact kit_dict_tuple | exact kit_dict_dict | exact kit_NoneType_int | exact kit_NoneType_bool | exact kit_NoneType_str | exact kit_NoneType_list | exact kit_NoneType_tuple | exact kit_NoneType_dict)
local macro_rules | `(tactic| walk_at "kitA") => `(tactic| first | assumption | exact kitA_lt_int | exact kitA_lt_bool | exact kitA_lt_str | exact kitA_lt_list | exact kitA_lt_tuple | exact kitA_lt_dict | exact kitA_lt_NoneType | exact kitA_bilt_int | exact kitA_bilt_bool | exact kitA_bilt_str | exact kitA_bilt_list | exact kitA_bilt_tuple | exact kitA_bilt_dict | exact kitA_bilt_NoneType)
local macro_rules | `(tactic| walk_at "ty") => `(tactic| first | exact .base (.int _) | exact .base (.bl _) | exact .base (.str _) | exact .base .non | exact .base (.lst (Stt.get (by assumption) (by walk_at "mem"))) | exact .base (.tup (Stt.get (by assumption) (by walk_at "mem"))) | exact .base (.dK (Stt.get (by assumption) (by walk_at "mem"))) | exact sqL_ty (Stt.upL (by assumption) (by assumption)) | exact sqT_ty (Stt.upT (by assumption) (by assumption)) | exact InsT.ty (by assumption) (Stt.get (by assumption) (by walk_at "mem")) | assumption)
local macro_rules | `(tactic| walk_at "rd1") => `(tactic| first
  | with_reducible refine' Rd.seq ?_
  | with_reducible refine' Rd.asg ?_
  | ((with_reducible refine' Rd.var ?vh ?_); (case vh => exact rfl))
  | with_reducible refine' Rd.con ?_
  | with_reducible refine' Rd.op ?_
  | with_reducible refine' Rd.i0 ?_
  | ((with_reducible refine' Rd.ic ?vh ?_); (case vh => walk_at "cnd"))
  | ((with_reducible refine' Rd.ixL ?v1 ?v2 ?v3 ?_); (case v1 => assumption); (case v2 => walk_at "mem"); (case v3 => walk_at "at"))
  | ((with_reducible refine' Rd.ixT ?v1 ?v2 ?v3 ?_); (case v1 => assumption); (case v2 => walk_at "mem"); (case v3 => walk_at "at"))
  | ((with_reducible refine' Rd.ixD2 ?v1 ?v2 ?_); (case v1 => assumption); (case v2 => walk_at "mem"); intro _)
  | ((with_reducible refine' Rd.ixD3 ?v1 ?v2 ?_); (case v1 => assumption); (case v2 => walk_at "mem"); intro _)
  | ((with_reducible refine' Rd.setD2 ?v1 ?v2 ?v3 ?v4 ?_); (case v1 => assumption); (case v2 => walk_at "mem"); (case v3 => walk_at "put"); (case v4 => walk_at "own"); intro _ _)
  | ((with_reducible refine' Rd.isi ?v1 ?v2 ?v3 ?_); (case v1 => walk_at "ty"); (case v2 => first | exact ClsV.ty _ | exact ClsV.own _); (case v3 => walk_at "kit"))
  | with_reducible refine' Rd.fld ?_
  | ((with_reducible refine' Rd.fldI ?v1 ?v2 ?v3 ?v4 ?v5 ?_); (case v1 => assumption); (case v2 => walk_at "mem"); (case v3 => assumption); (case v4 => assumption); (case v5 => walk_at "at"))
  | with_reducible refine' Rd.sfld ?_
  | ((with_reducible refine' Rd.sfldI ?v1 ?v2 ?v3 ?v4 ?v5 ?v6 ?v7 ?_); (case v1 => assumption); (case v2 => walk_at "mem"); (case v3 => assumption); (case v4 => assumption); (case v5 => first | decide | (refine Nat.lt_of_le_of_lt (putF_len _ _ _) ?_; decide)); (case v6 => walk_at "put"); (case v7 => walk_at "own"); intro _ _)
  | with_reducible refine' Rd.make ?_
  | with_reducible refine' Rd.gcd ?_
  | with_reducible refine' Rd.cons ?_
  | with_reducible refine' Rd.nil ?_
  | with_reducible refine' Rd.cb ?_
  | with_reducible refine' Rd.intI ?_
  | with_reducible refine' Rd.absI ?_
  | ((with_reducible refine' Rd.lenL ?v1 ?v2 ?_); (case v1 => assumption); (case v2 => walk_at "mem"))
  | ((with_reducible refine' Rd.lenT ?v1 ?v2 ?_); (case v1 => assumption); (case v2 => walk_at "mem"))
  | ((with_reducible refine' Rd.lenBL ?v1 ?v2 ?v3 ?_); (case v1 => assumption); (case v2 => assumption); (case v3 => first | exact List.not_mem_nil | assumption))
  | ((with_reducible refine' Rd.lenBT ?v1 ?v2 ?v3 ?_); (case v1 => assumption); (case v2 => assumption); (case v3 => first | exact List.not_mem_nil | assumption))
  | ((with_reducible refine' Rd.ixBL ?v1 ?v2 ?v4 ?v3 ?_); (case v1 => assumption); (case v2 => assumption); (case v4 => first | exact List.not_mem_nil | assumption); (case v3 => walk_at "at"))
  | ((with_reducible refine' Rd.ixBT ?v1 ?v2 ?v4 ?v3 ?_); (case v1 => assumption); (case v2 => assumption); (case v4 => first | exact List.not_mem_nil | assumption); (case v3 => walk_at "at"))
  | ((with_reducible refine' Rd.brI ?vh ?_); (case vh => with_reducible exact rfl))
  | with_reducible refine' Rd.ifS ?_
  | with_reducible refine' Rd.test ?_
  | with_reducible refine' Rd.tbl ?_
  | with_reducible refine' Rd.bl ?_
  | with_reducible refine' Rd.brTT ?_
  | with_reducible refine' Rd.brFF ?_
  | with_reducible refine' Rd.brN ?_
  | ((with_reducible refine' Rd.aug ?vh ?_); (case vh => exact rfl))
  | with_reducible refine' Rd.ipI ?_
  | with_reducible refine' Rd.blV ?_
  | with_reducible refine' Rd.notVL ?_
  | with_reducible refine' Rd.andT ?_
  | with_reducible refine' Rd.orT ?_
  | with_reducible refine' Rd.notT ?_
  | with_reducible refine' Rd.andV ?_
  | with_reducible refine' Rd.orV ?_
  | with_reducible refine' Rd.notV ?_
  | with_reducible refine' Rd.ifE ?_
  | ((with_reducible refine' Rd.eqS ?vh ?_); (case vh => exact rfl))
  | ((with_reducible refine' Rd.neS ?vh ?_); (case vh => exact rfl))
  | with_reducible refine' Rd.par ?_
  | with_reducible refine' Rd.parL ?_
  | with_reducible refine' Rd.un ?_
  | with_reducible refine' Rd.u1 ?_
  | with_reducible refine' Rd.sub ?_
  | ((with_reducible refine' Rd.setL ?v1 ?v2 ?v3 ?v4 ?v5 ?_); (case v1 => assumption); (case v2 => walk_at "mem"); (case v3 => walk_at "at"); (case v4 => walk_at "put"); (case v5 => walk_at "own"); intro _ _)
  | with_reducible refine' Rd.tup ?_
  | with_reducible refine' Rd.lst ?_
  | ((with_reducible refine' Rd.tupN ?v1 ?v2 ?_); (case v1 => assumption); (case v2 => simp only [List.length_cons, List.length_nil]; decide); intro _ _ _ _)
  | ((with_reducible refine' Rd.lstN ?v1 ?v2 ?_); (case v1 => assumption); (case v2 => simp only [List.length_cons, List.length_nil]; decide); intro _ _ _ _)
  | with_reducible refine' Rd.ret ?_
  | with_reducible refine' Rd.drop ?_
  | with_reducible refine' Rd.retN ?_
  | with_reducible refine' Rd.next ?_
  | with_reducible refine' Rd.brk ?_
  | with_reducible refine' Rd.cont ?_
  | with_reducible refine' Rd.call ?_
  | walk_at "ask"
  | with_reducible refine' Rd.bm ?_
  | ((with_reducible refine' Rd.bmL ?v1 ?v2 ?_); (case v1 => assumption); (case v2 => walk_at "mem"))
  | ((with_reducible refine' Rd.app ?v1 ?v2 ?v3 ?v4 ?v5 ?_); (case v1 => assumption); (case v2 => walk_at "mem"); (case v3 => simp only [List.length_cons, List.length_nil, List.length_append]; omega); (case v4 => walk_at "put"); (case v5 => walk_at "own"); intro _ _)
  | with_reducible refine' Rd.asgT ?_
  | ((with_reducible refine' Rd.gtup ?v1 ?v2 ?v3 ?_); (case v1 => assumption); (case v2 => walk_at "mem"); (case v3 => exact rfl))
  | with_reducible refine' Rd.gcons ?_
  | with_reducible refine' Rd.gname ?_
  | with_reducible refine' Rd.gnil ?_
  | with_reducible refine' Rd.sl ?_
  | with_reducible refine' Rd.noPart ?_
  | with_reducible refine' Rd.part ?_
  | with_reducible refine' Rd.prt ?_
  | with_reducible refine' Rd.isB ?_
  | ((with_reducible refine' Rd.wp ?vh ?_); (case vh => exact rfl))
  | with_reducible refine' Rd.makeK ?_
  | with_reducible refine' Rd.meth ?_
  | ((with_reducible refine' Rd.catL ?v1 ?v2 ?v3 ?v4 ?_); (case v1 => assumption); (case v2 => walk_at "mem"); (case v3 => walk_at "mem"); (case v4 => simp only [List.length_cons, List.length_nil, List.length_append]; omega); intro _ _ _ _)
  | with_reducible refine' Rd.dnew ?_
  | ((with_reducible refine' Rd.dnewL ?v1 ?_); (case v1 => assumption); intro _ _ _ _)
  | with_reducible refine' Rd.lc ?_
  | with_reducible refine' Rd.wZ ?_
  | with_reducible refine' Rd.tYesH ?_
  | with_reducible refine' Rd.fmt ?_
  | with_reducible refine' Rd.joined ?_
  | with_reducible refine' Rd.jsNil ?_
  | with_reducible refine' Rd.jsCons ?_
  | ((with_reducible refine' Rd.isiT ?v1 ?v2 ?v3 ?v4 ?v5 ?_); (case v1 => assumption); (case v2 => walk_at "mem"); (case v3 => walk_at "ty"); (case v4 => first | exact .cons (.ty _) (.cons (.ty _) .nil) | exact .cons (.ty _) (.cons (.ty _) (.cons (.ty _) (.cons (.ty _) .nil))) | exact .cons (.ty _) (.cons (.ty _) (.cons (.ty _) .nil))); (case v5 => walk_at "kitA"))
  | with_reducible refine' Rd.forS ?_
  | with_reducible refine' Rd.wEnT ?_
  | ((with_reducible refine' Rd.wEnTL ?v1 ?v2 ?_); (case v1 => assumption); (case v2 => walk_at "mem"))
  | with_reducible refine' Rd.wL ?_
  | ((with_reducible refine' Rd.wLL ?v1 ?v2 ?_); (case v1 => assumption); (case v2 => walk_at "mem"))
  | with_reducible refine' Rd.wT ?_
  | ((with_reducible refine' Rd.wTL ?v1 ?v2 ?_); (case v1 => assumption); (case v2 => walk_at "mem"))
  | with_reducible refine' Rd.wR1 ?_
  | ((with_reducible refine' Rd.wR1L ?v1 ?v2 ?_); (case v1 => omega); (case v2 => omega))
  | with_reducible refine' Rd.wR2 ?_
  | ((with_reducible refine' Rd.wR2L ?v1 ?_); (case v1 => omega)))
local macro_rules | `(tactic| walk_at "rd") => `(tactic| repeat (walk_at "rd1"))

local macro_rules | `(tactic| walk_at "ask") => `(tactic| ((with_reducible refine' fill_ask ?v1 ?v2 ?v3 ?v4 ?v5 ?_); (case v1 => assumption); (case v2 => walk_at "mem"); (case v3 => walk_at "mem"); (case v4 => assumption); (case v5 => walk_at "own"); intro _ _))

local macro_rules | `(tactic| walk_at "ask") => `(tactic| ((with_reducible refine' take_ask ?v1 ?v2 ?v3 ?v4 ?v5 ?v6 ?_); (case v1 => assumption); (case v2 => walk_at "mem"); (case v3 => walk_at "mem"); (case v4 => assumption); (case v5 => walk_at "own"); (case v6 => first | decide | omega); intro _ _ _ _))
local macro_rules | `(tactic| walk_at "ask") => `(tactic| ((with_reducible refine' one_ask ?v1 ?v2 ?v3 ?v4 ?v5 ?_); (case v1 => assumption); (case v2 => walk_at "subl"); (case v3 => assumption); (case v4 => walk_at "own"); (case v5 => simp only [List.length_append, List.length_cons, List.length_nil]; decide); intro _ _ _ _))
local macro_rules | `(tactic| walk_at "ask") => `(tactic| ((with_reducible refine' fig_ask ?v1 ?v2 ?v3 ?v4 ?_); (case v1 => assumption); (case v2 => walk_at "subl"); (case v3 => assumption); (case v4 => walk_at "own"); intro _ _ _ _))
local macro_rules | `(tactic| walk_at "ask") => `(tactic| ((with_reducible refine' low_ask ?v1 ?v2 ?v3 ?v4 ?_); (case v1 => assumption); (case v2 => first | assumption | omega); (case v3 => omega); (case v4 => omega); intro _ _ _ _))
local macro_rules | `(tactic| walk_at "ask") => `(tactic| ((with_reducible refine' frac_ask ?v1 ?v2 ?v3 ?v4 ?_); (case v1 => assumption); (case v2 => walk_at "subl"); (case v3 => assumption); (case v4 => walk_at "own"); intro _ _ _ _ _ _ _))

local macro_rules | `(tactic| walk_at "ask") => `(tactic| with_reducible refine' isI_int ?_)
local macro_rules | `(tactic| walk_at "ask") => `(tactic| ((with_reducible refine' mk_span ?v1 ?v2 ?v3 ?_); (case v1 => assumption); (case v2 => first | assumption | omega); (case v3 => first | assumption | omega); intro _ _ _ _))
local macro_rules | `(tactic| walk_at "ask") => `(tactic| ((with_reducible refine' mk_span1 ?v1 ?_); (case v1 => assumption); intro _ _ _ _))
local macro_rules | `(tactic| walk_at "ask") => `(tactic| ((with_reducible refine' fld_over ?v1 ?v2 ?v3 ?v4 ?_); (case v1 => assumption); (case v2 => assumption); (case v3 => assumption); (case v4 => walk_at "mem")))
local macro_rules | `(tactic| walk_at "ask") => `(tactic| ((with_reducible refine' fld_under ?v1 ?v2 ?v3 ?v4 ?_); (case v1 => assumption); (case v2 => assumption); (case v3 => assumption); (case v4 => walk_at "mem")))
local macro_rules | `(tactic| walk_at "ty") => `(tactic| exact span_ty (by assumption) (by assumption) (by walk_at "mem"))

section
variable {P : Program} {w : World} {K : PySem.W.Frag} {mg : Str → Option Value} {base : Heap}
/-! ### the operators with an object ahead of a Span -/
theorem noSub (T : Txt K mg) : NoSub K (He.ga K "Span") := ⟨T.su_NoneType, T.su_bool, T.su_str, T.su_list, T.su_tuple, T.su_dict, T.su_int⟩
theorem call_isiK {X : Cx} (hK : X.K = K) : CallR X (.builtin "isinstance") (rIsi K) := by
  rw [← hK]
  exact call_isi
section
variable {Hb H : Hp} {l : Led} {Q : VK}
theorem ref2r {a : Addr} {x : V} {i j : Int} {Q' : VK} {E' : XK} (s : StT K Hb l H) (ho : IsOth x Hb) (hE : ∀ cls d H', XP K x H cls d H' → E' cls d H') : spRef2 K [x, .ref a] H Q' E' :=
  ⟨x, .ref a, x, rfl, .inr ⟨isOth_kp s.s.keep ho, rfl⟩, hE⟩
theorem ht_binR {C' : Addr} {sp1 sp : Sp} {E1 E : XK} {a : Addr} {x : V} {i j : Int} {m : Bool} {σ : L2.St} {Q' : VK} (hC : C' = He.ga K "Span") (s : StT K Hb l H) (hA : IsNum K Hb (.ref a) i j) (ho : IsOth x Hb) (hm : m = true → ∀ z, x ≠ .str z) (e0 : σ[0]? = some (some (.ref a))) (e1 : σ[1]? = some (some x)) (h : sp [x, .ref a] H Q' E) :
    tOp (fun x y H Q => rBinR C' sp1 E1 x y H Q ∨ rBinRO C' m (swp sp) E x y H Q) (tVar 1) (tVar 0) σ H Q' := by
  subst hC
  rcases hA.kp0 s.s.keep with ⟨e, _⟩ | ⟨p, o, e, h1, dx, rfl⟩
  · cases e
  · cases e
    exact ⟨_, e1, _, e0, .inr ⟨a, dx, _, rfl, h1, isOth_kp s.s.keep ho, hm, x, .ref a, rfl, h⟩⟩
theorem ht_binR0 {C' : Addr} {sp : Sp} {E : XK} {a : Addr} {x : V} {i j : Int} {m : Bool} {Q' : VK} (hC : C' = He.ga K "Span") (s : StT K Hb l H) (hA : IsNum K Hb (.ref a) i j) (ho : IsOth x Hb) (hm : m = true → ∀ z, x ≠ .str z) (h : sp [x, .ref a] H Q' E) : rBinRO C' m (swp sp) E x (.ref a) H Q' := by
  subst hC
  rcases hA.kp0 s.s.keep with ⟨e, _⟩ | ⟨p, o, e, h1, dx, rfl⟩
  · cases e
  · cases e
    exact ⟨a, dx, _, rfl, h1, isOth_kp s.s.keep ho, hm, x, .ref a, rfl, h⟩
theorem ht_cmpR {C' : Addr} {sp1 sp : Sp} {E1 E : XK} {a : Addr} {x : V} {i j : Int} {σ : L2.St} {Q' : VK} (hC : C' = He.ga K "Span") (s : StT K Hb l H) (hA : IsNum K Hb (.ref a) i j) (ho : IsOth x Hb) (e0 : σ[0]? = some (some (.ref a))) (e1 : σ[1]? = some (some x)) (h : sp [.ref a, x] H Q' E) :
    tOp (fun x y H Q => rCmpR C' IsI sp1 E1 x y H Q ∨ rCmpR C' IsOth sp E x y H Q) (tVar 1) (tVar 0) σ H Q' := by
  subst hC
  rcases hA.kp0 s.s.keep with ⟨e, _⟩ | ⟨p, o, e, h1, dx, rfl⟩
  · cases e
  · cases e
    exact ⟨_, e1, _, e0, .inr ⟨a, dx, _, rfl, h1, isOth_kp s.s.keep ho, h⟩⟩
end
local macro_rules | `(tactic| walk_at "ht") => `(tactic| first
  | exact ht_binR rfl (by assumption) (by assumption) (by assumption) (fun h => by cases h) rfl rfl (Or.inr (ref2r (i := 0) (j := 0) (by assumption) (by assumption) (by assumption)))
  | exact ht_binR rfl (by assumption) (by assumption) (by assumption) (fun h => by cases h) rfl rfl (Or.inr (Or.inl (ref2r (i := 0) (j := 0) (by assumption) (by assumption) (by assumption))))
  | exact ht_cmpR rfl (by assumption) (by assumption) (by assumption) rfl rfl (Or.inr (ref2 (by assumption) (by assumption) (by assumption) (by assumption))))
local macro_rules | `(tactic| walk_at "ask") => `(tactic| first
  | ((with_reducible refine' StT.lst ?v1 ?v2 ?_); (case v1 => assumption); (case v2 => simp only [List.length_cons, List.length_nil]; decide); intro _ _ _ _)
  | ((with_reducible refine' StT.bm ?v1 ?v2 ?_); (case v1 => assumption); (case v2 => walk_at "mem"))
  | ((with_reducible refine' StT.app ?v1 ?v2 ?v3 ?v4 ?v5 ?_); (case v1 => assumption); (case v2 => walk_at "mem"); (case v3 => simp only [List.length_cons, List.length_nil, List.length_append]; omega); (case v4 => walk_at "put"); (case v5 => assumption); intro _ _)
  | ((with_reducible refine' lamP ?v0 ?v1 ?v2 ?_); (case v0 => assumption); (case v1 => assumption); (case v2 => intro _ _ _ _ _; walk_at "ht"); intro _ _ _ _))
def isS : V → Bool
  | .str _ => true
  | _ => false
/-- what comes of the k-th operator -/
def ahd (x : V) (k : Nat) : List V := if isS x = true ∧ k = 4 then [.str "goes"] else [.str "part", x]
theorem noStr {H : Hp} {x : V} (hx : isS x = false) (h : IsOth x H) : ∃ t, TyX K H x t ∧ PySem.W.kitOne K t (.type "str") = some false := by
  rcases h with rfl | ⟨b, rfl⟩ | ⟨y, rfl⟩ | ⟨a, xs, rfl, g⟩ | ⟨a, xs, rfl, g⟩ | ⟨a, xs, rfl, g⟩
  · exact ⟨_, .base .non, kit_NoneType_str⟩
  · exact ⟨_, .base (.bl b), kit_bool_str⟩
  · cases hx
  · exact ⟨_, .base (.lst g), kit_list_str⟩
  · exact ⟨_, .base (.tup g), kit_tuple_str⟩
  · exact ⟨_, .base (.dK g), kit_dict_str⟩
def spAhead (K : PySem.W.Frag) : Sp := fun vs H Q _ => ∃ (a : Addr) (i j : Int) (x : V), vs = [.ref a, x] ∧ IsNum K (nt H) (.ref a) i j ∧ IsOth x (nt H) ∧ LamX.Tabs (TL K) H ∧
  ∀ (r : Addr) (ts : List Addr) (H' : Hp), nt H r = none → Stt (nt H) [] [(r, Is (.lst (ts.map V.ref)))] H' → LamX.Tabs (TL K) H' → ts.length = 9 → (∀ k t, ts[k]? = some t → nt H t = none ∧ H' t = some (.tup (ahd x k))) → Q (.ref r) H'
theorem ok_l_aheadO (T : Txt K mg) (hT : ∀ p ∈ cts tf K, LamX.TabB base mg p.1 p.2) : FnOk P w K mg base CX0 11 (He.fAd K ("_law_ahead", none)) T.fd_l_ahead ["_law_a", "_law_x"] (spAhead K) := by
  refine okC (p := ("_law_ahead", none)) T.F_l_ahead sc_l_ahead (fun vs H Q E h => ?_) (fun A outer s H vs Q E hr h => ?_)
  · obtain ⟨a, i, j, x, rfl, _⟩ := h
    rfl
  · obtain ⟨a, i, j, x, rfl, hA, ho, tb, k⟩ := h
    refine ⟨_, PSs.nox (pss_cons (ps_asg (pe_lst (pa_cons (pe_tried (k := 8) T rfl (hT _ (List.mem_map.mpr ⟨("_law_ahead", none), by decide, rfl⟩)) rfl (tl_mem (d := ("_law_ahead", none)) (by decide)) (tl_uniq T (d := ("_law_ahead", none)) (by decide)) hr (LamX.lamS_by (show LamX.lamSB (defScope s_l_ahead) _ = true by decide +kernel)) rfl (fun _ _ _ _ _ => rfl) (fun A outer s H E f c' hr2 => (by exact (pe_op (op_both (by exact op_binR (bo_add T) declB_add (ok_Span_raddC T) T.b_Span_radd (hr2.mono (by decide)) (passes_call (takes_of rfl rfl rfl rfl) (fun _ _ _ _ h => h))) (by exact op_binRO (isMod := false) (by decide +kernel) (bo_add T) T.od_add declBB_add (ok_Span_raddC T) T.b_Span_radd (hr2.mono (by decide)) (passes_call (takes_of rfl rfl rfl rfl) (fun _ _ _ _ h => h)))) (pv 1) (pv 0))))) pa_nil)) (pg_name (i := 2) sc_l_ahead.nd rfl (by first | exact Or.inl rfl | exact Or.inr rfl)))
  (pss_cons (ps_expr (pe_bm PySem.F.plainAttrs_list PySem.F.slot_list_append PySem.F.type_list_append mt_append (pv 2) (pa_cons (pe_tried (k := 8) T rfl (hT _ (List.mem_map.mpr ⟨("_law_ahead", none), by decide, rfl⟩)) rfl (tl_mem (d := ("_law_ahead", none)) (by decide)) (tl_uniq T (d := ("_law_ahead", none)) (by decide)) hr (LamX.lamS_by (show LamX.lamSB (defScope s_l_ahead) _ = true by decide +kernel)) rfl (fun _ _ _ _ _ => rfl) (fun A outer s H E f c' hr2 => (by exact (pe_op (op_both (by exact op_binR (bo_sub T) declB_sub (ok_Span_rsubC T) T.b_Span_rsub (hr2.mono (by decide)) (passes_call (takes_of rfl rfl rfl rfl) (fun _ _ _ _ h => h))) (by exact op_binRO (isMod := false) (by decide +kernel) (bo_sub T) T.od_sub declBB_sub (ok_Span_rsubC T) T.b_Span_rsub (hr2.mono (by decide)) (passes_call (takes_of rfl rfl rfl rfl) (fun _ _ _ _ h => h)))) (pv 1) (pv 0))))) pa_nil)))
  (pss_cons (ps_expr (pe_bm PySem.F.plainAttrs_list PySem.F.slot_list_append PySem.F.type_list_append mt_append (pv 2) (pa_cons (pe_tried (k := 8) T rfl (hT _ (List.mem_map.mpr ⟨("_law_ahead", none), by decide, rfl⟩)) rfl (tl_mem (d := ("_law_ahead", none)) (by decide)) (tl_uniq T (d := ("_law_ahead", none)) (by decide)) hr (LamX.lamS_by (show LamX.lamSB (defScope s_l_ahead) _ = true by decide +kernel)) rfl (fun _ _ _ _ _ => rfl) (fun A outer s H E f c' hr2 => (by exact (pe_op (op_both (by exact op_binR (bo_mul T) declB_mul (ok_Span_rmulC T) T.b_Span_rmul (hr2.mono (by decide)) (passes_call (takes_of rfl rfl rfl rfl) (fun _ _ _ _ h => h))) (by exact op_binRO (isMod := false) (by decide +kernel) (bo_mul T) T.od_mul declBB_mul (ok_Span_rmulC T) T.b_Span_rmul (hr2.mono (by decide)) (passes_call (takes_of rfl rfl rfl rfl) (fun _ _ _ _ h => h)))) (pv 1) (pv 0))))) pa_nil)))
  (pss_cons (ps_expr (pe_bm PySem.F.plainAttrs_list PySem.F.slot_list_append PySem.F.type_list_append mt_append (pv 2) (pa_cons (pe_tried (k := 8) T rfl (hT _ (List.mem_map.mpr ⟨("_law_ahead", none), by decide, rfl⟩)) rfl (tl_mem (d := ("_law_ahead", none)) (by decide)) (tl_uniq T (d := ("_law_ahead", none)) (by decide)) hr (LamX.lamS_by (show LamX.lamSB (defScope s_l_ahead) _ = true by decide +kernel)) rfl (fun _ _ _ _ _ => rfl) (fun A outer s H E f c' hr2 => (by exact (pe_op (op_both (by exact op_binR (bo_floordiv T) declB_floordiv (ok_Span_rfloordivC T) T.b_Span_rfloordiv (hr2.mono (by decide)) (passes_call (takes_of rfl rfl rfl rfl) (fun _ _ _ _ h => h))) (by exact op_binRO (isMod := false) (by decide +kernel) (bo_floordiv T) T.od_floordiv declBB_floordiv (ok_Span_rfloordivC T) T.b_Span_rfloordiv (hr2.mono (by decide)) (passes_call (takes_of rfl rfl rfl rfl) (fun _ _ _ _ h => h)))) (pv 1) (pv 0))))) pa_nil)))
  (pss_cons (ps_expr (pe_bm PySem.F.plainAttrs_list PySem.F.slot_list_append PySem.F.type_list_append mt_append (pv 2) (pa_cons (pe_tried (k := 8) T rfl (hT _ (List.mem_map.mpr ⟨("_law_ahead", none), by decide, rfl⟩)) rfl (tl_mem (d := ("_law_ahead", none)) (by decide)) (tl_uniq T (d := ("_law_ahead", none)) (by decide)) hr (LamX.lamS_by (show LamX.lamSB (defScope s_l_ahead) _ = true by decide +kernel)) rfl (fun _ _ _ _ _ => rfl) (fun A outer s H E f c' hr2 => (by exact pe_ifExp (pt_val (pe_callB (call_isiK (K := K) rfl) (by rfl) T.n_isinstance (by decide +kernel) (pa_cons (pv 1) (pa_cons (pe_bltn (v := .ty "str") (by rfl) T.n_str (by decide +kernel) (show RelV (.ty "str") (.type "str") from rfl)) pa_nil)))) pe_int (pe_op (op_both (by exact op_binR (bo_mod T) declB_mod (ok_Span_rmodC T) T.b_Span_rmod (hr2.mono (by decide)) (passes_call (takes_of rfl rfl rfl rfl) (fun _ _ _ _ h => h))) (by exact op_binRO (isMod := true) (by decide +kernel) (bo_mod T) T.od_mod declBB_mod (ok_Span_rmodC T) T.b_Span_rmod (hr2.mono (by decide)) (passes_call (takes_of rfl rfl rfl rfl) (fun _ _ _ _ h => h)))) (pv 1) (pv 0))))) pa_nil)))
  (pss_cons (ps_expr (pe_bm PySem.F.plainAttrs_list PySem.F.slot_list_append PySem.F.type_list_append mt_append (pv 2) (pa_cons (pe_tried (k := 8) T rfl (hT _ (List.mem_map.mpr ⟨("_law_ahead", none), by decide, rfl⟩)) rfl (tl_mem (d := ("_law_ahead", none)) (by decide)) (tl_uniq T (d := ("_law_ahead", none)) (by decide)) hr (LamX.lamS_by (show LamX.lamSB (defScope s_l_ahead) _ = true by decide +kernel)) rfl (fun _ _ _ _ _ => rfl) (fun A outer s H E f c' hr2 => (by exact pe_cmpR (op_both (by exact op_refl (op := .Lt) (fun _ _ => rfl) (declines_int_lt T.su_int) T.m_Span_gt.at_ T.m_Span_gt.fn (ok_Span_gtC T) T.b_Span_gt (hr2.mono (by decide)) (passes_call (takes_of rfl rfl rfl rfl) (fun _ _ _ _ h => h))) (by exact op_refl (op := .Lt) (fun _ _ => rfl) (declines_oth_lt (noSub T)) T.m_Span_gt.at_ T.m_Span_gt.fn (ok_Span_gtC T) T.b_Span_gt (hr2.mono (by decide)) (passes_call (takes_of rfl rfl rfl rfl) (fun _ _ _ _ h => h)))) (pv 1) (pv 0) (nomark _)))) pa_nil)))
  (pss_cons (ps_expr (pe_bm PySem.F.plainAttrs_list PySem.F.slot_list_append PySem.F.type_list_append mt_append (pv 2) (pa_cons (pe_tried (k := 8) T rfl (hT _ (List.mem_map.mpr ⟨("_law_ahead", none), by decide, rfl⟩)) rfl (tl_mem (d := ("_law_ahead", none)) (by decide)) (tl_uniq T (d := ("_law_ahead", none)) (by decide)) hr (LamX.lamS_by (show LamX.lamSB (defScope s_l_ahead) _ = true by decide +kernel)) rfl (fun _ _ _ _ _ => rfl) (fun A outer s H E f c' hr2 => (by exact pe_cmpR (op_both (by exact op_refl (op := .LtE) (fun _ _ => rfl) (declines_int_le T.su_int) T.m_Span_ge.at_ T.m_Span_ge.fn (ok_Span_geC T) T.b_Span_ge (hr2.mono (by decide)) (passes_call (takes_of rfl rfl rfl rfl) (fun _ _ _ _ h => h))) (by exact op_refl (op := .LtE) (fun _ _ => rfl) (declines_oth_le (noSub T)) T.m_Span_ge.at_ T.m_Span_ge.fn (ok_Span_geC T) T.b_Span_ge (hr2.mono (by decide)) (passes_call (takes_of rfl rfl rfl rfl) (fun _ _ _ _ h => h)))) (pv 1) (pv 0) (nomark _)))) pa_nil)))
  (pss_cons (ps_expr (pe_bm PySem.F.plainAttrs_list PySem.F.slot_list_append PySem.F.type_list_append mt_append (pv 2) (pa_cons (pe_tried (k := 8) T rfl (hT _ (List.mem_map.mpr ⟨("_law_ahead", none), by decide, rfl⟩)) rfl (tl_mem (d := ("_law_ahead", none)) (by decide)) (tl_uniq T (d := ("_law_ahead", none)) (by decide)) hr (LamX.lamS_by (show LamX.lamSB (defScope s_l_ahead) _ = true by decide +kernel)) rfl (fun _ _ _ _ _ => rfl) (fun A outer s H E f c' hr2 => (by exact pe_cmpR (op_both (by exact op_refl (op := .Gt) (fun _ _ => rfl) (declines_int_gt T.su_int) T.m_Span_lt.at_ T.m_Span_lt.fn (ok_Span_ltC T) T.b_Span_lt (hr2.mono (by decide)) (passes_call (takes_of rfl rfl rfl rfl) (fun _ _ _ _ h => h))) (by exact op_refl (op := .Gt) (fun _ _ => rfl) (declines_oth_gt (noSub T)) T.m_Span_lt.at_ T.m_Span_lt.fn (ok_Span_ltC T) T.b_Span_lt (hr2.mono (by decide)) (passes_call (takes_of rfl rfl rfl rfl) (fun _ _ _ _ h => h)))) (pv 1) (pv 0) (nomark _)))) pa_nil)))
  (pss_cons (ps_expr (pe_bm PySem.F.plainAttrs_list PySem.F.slot_list_append PySem.F.type_list_append mt_append (pv 2) (pa_cons (pe_tried (k := 8) T rfl (hT _ (List.mem_map.mpr ⟨("_law_ahead", none), by decide, rfl⟩)) rfl (tl_mem (d := ("_law_ahead", none)) (by decide)) (tl_uniq T (d := ("_law_ahead", none)) (by decide)) hr (LamX.lamS_by (show LamX.lamSB (defScope s_l_ahead) _ = true by decide +kernel)) rfl (fun _ _ _ _ _ => rfl) (fun A outer s H E f c' hr2 => (by exact pe_cmpR (op_both (by exact op_refl (op := .GtE) (fun _ _ => rfl) (declines_int_ge T.su_int) T.m_Span_le.at_ T.m_Span_le.fn (ok_Span_leC T) T.b_Span_le (hr2.mono (by decide)) (passes_call (takes_of rfl rfl rfl rfl) (fun _ _ _ _ h => h))) (by exact op_refl (op := .GtE) (fun _ _ => rfl) (declines_oth_ge (noSub T)) T.m_Span_le.at_ T.m_Span_le.fn (ok_Span_leC T) T.b_Span_le (hr2.mono (by decide)) (passes_call (takes_of rfl rfl rfl rfl) (fun _ _ _ _ h => h)))) (pv 1) (pv 0) (nomark _)))) pa_nil)))
  (pss_one (ps_ret (pv 2)))))))))))), ?_⟩
    walk_at "k"
    have nT : NoT (nt H) := nt_no
    have s0 : StT K (nt H) [] H := ⟨stt_nt, tb, noTl_nil⟩
    walk_at "rd"
    rename_i r0 G0 n0 t0 p Gp np tp r1 G1 n1 t1 J1 u1 r2 G2 n2 t2 J2 u2 r3 G3 n3 t3 J3 u3
    cases hx : isS x with
    | true =>
      obtain ⟨z, rfl⟩ : ∃ z, x = .str z := by
        cases x with
        | str z => exact ⟨z, rfl⟩
        | _ => cases hx
      refine lamG nT u3 (fun H2 E' Q' s2 hQ => ?_) fun r4 G4 n4 t4 => ?_
      · clear u3 u2 u1 tp t0 t1 t2 t3 s0
        walk_at "rd"
        exact hQ _ _ (Kp.refl _)
      clear u3 u2 u1 tp t0 t1 t2 t3 s0
      walk_at "rd"
      rename_i J4 u4 r5 G5 n5 t5 J5 u5 r6 G6 n6 t6 J6 u6 r7 G7 n7 t7 J7 u7 r8 G8 n8 t8 J8 u8
      refine k p [r0, r1, r2, r3, r4, r5, r6, r7, r8] _ np (u8.s.sub (List.Sublist.cons _ (List.Sublist.cons _ (List.Sublist.cons _ (List.Sublist.cons _ (List.Sublist.cons _ (List.Sublist.cons _ (List.Sublist.cons _ (List.Sublist.cons _ (List.Sublist.cons₂ _ (List.nil_sublist _))))))))))) u8.tb rfl ?_
      intro k t e
      match k, e with
      | 0, e =>
        cases e
        refine ⟨n0, ?_⟩
        rw [show ahd (.str z) 0 = _ by unfold ahd; exact if_neg (fun z => absurd z.2 (by decide))]
        exact u8.s.get (by walk_at "mem")
      | 1, e =>
        cases e
        refine ⟨n1, ?_⟩
        rw [show ahd (.str z) 1 = _ by unfold ahd; exact if_neg (fun z => absurd z.2 (by decide))]
        exact u8.s.get (by walk_at "mem")
      | 2, e =>
        cases e
        refine ⟨n2, ?_⟩
        rw [show ahd (.str z) 2 = _ by unfold ahd; exact if_neg (fun z => absurd z.2 (by decide))]
        exact u8.s.get (by walk_at "mem")
      | 3, e =>
        cases e
        refine ⟨n3, ?_⟩
        rw [show ahd (.str z) 3 = _ by unfold ahd; exact if_neg (fun z => absurd z.2 (by decide))]
        exact u8.s.get (by walk_at "mem")
      | 4, e =>
        cases e
        refine ⟨n4, ?_⟩
        rw [show ahd (.str z) 4 = _ by unfold ahd; exact if_pos ⟨hx, rfl⟩]
        exact u8.s.get (by walk_at "mem")
      | 5, e =>
        cases e
        refine ⟨n5, ?_⟩
        rw [show ahd (.str z) 5 = _ by unfold ahd; exact if_neg (fun z => absurd z.2 (by decide))]
        exact u8.s.get (by walk_at "mem")
      | 6, e =>
        cases e
        refine ⟨n6, ?_⟩
        rw [show ahd (.str z) 6 = _ by unfold ahd; exact if_neg (fun z => absurd z.2 (by decide))]
        exact u8.s.get (by walk_at "mem")
      | 7, e =>
        cases e
        refine ⟨n7, ?_⟩
        rw [show ahd (.str z) 7 = _ by unfold ahd; exact if_neg (fun z => absurd z.2 (by decide))]
        exact u8.s.get (by walk_at "mem")
      | 8, e =>
        cases e
        refine ⟨n8, ?_⟩
        rw [show ahd (.str z) 8 = _ by unfold ahd; exact if_neg (fun z => absurd z.2 (by decide))]
        exact u8.s.get (by walk_at "mem")
      | k + 9, e => cases e
    | false =>
      refine lamP (v := x) nT u3 (fun H2 E' Q' s2 hE => ?_) fun r4 G4 n4 t4 => ?_
      · obtain ⟨t, ty, kt⟩ : ∃ t, TyX K H2 x t ∧ PySem.W.kitOne K t (.type "str") = some false := noStr hx (isOth_kp s2.s.keep ho)
        clear u3 u2 u1 tp t0 t1 t2 t3 s0
        walk_at "rd"
        exact Or.inr (ht_binR0 (sp := spremainderC K) rfl s2 hA ho (fun _ z e => by rw [e] at hx; cases hx) (Or.inr (Or.inl (ref2r (i := 0) (j := 0) s2 ho hE))))
      clear u3 u2 u1 tp t0 t1 t2 t3 s0
      walk_at "rd"
      rename_i J4 u4 r5 G5 n5 t5 J5 u5 r6 G6 n6 t6 J6 u6 r7 G7 n7 t7 J7 u7 r8 G8 n8 t8 J8 u8
      refine k p [r0, r1, r2, r3, r4, r5, r6, r7, r8] _ np (u8.s.sub (List.Sublist.cons _ (List.Sublist.cons _ (List.Sublist.cons _ (List.Sublist.cons _ (List.Sublist.cons _ (List.Sublist.cons _ (List.Sublist.cons _ (List.Sublist.cons _ (List.Sublist.cons₂ _ (List.nil_sublist _))))))))))) u8.tb rfl ?_
      intro k t e
      match k, e with
      | 0, e =>
        cases e
        refine ⟨n0, ?_⟩
        rw [show ahd x 0 = _ by unfold ahd; exact if_neg (fun z => by rw [hx] at z; cases z.1)]
        exact u8.s.get (by walk_at "mem")
      | 1, e =>
        cases e
        refine ⟨n1, ?_⟩
        rw [show ahd x 1 = _ by unfold ahd; exact if_neg (fun z => by rw [hx] at z; cases z.1)]
        exact u8.s.get (by walk_at "mem")
      | 2, e =>
        cases e
        refine ⟨n2, ?_⟩
        rw [show ahd x 2 = _ by unfold ahd; exact if_neg (fun z => by rw [hx] at z; cases z.1)]
        exact u8.s.get (by walk_at "mem")
      | 3, e =>
        cases e
        refine ⟨n3, ?_⟩
        rw [show ahd x 3 = _ by unfold ahd; exact if_neg (fun z => by rw [hx] at z; cases z.1)]
        exact u8.s.get (by walk_at "mem")
      | 4, e =>
        cases e
        refine ⟨n4, ?_⟩
        rw [show ahd x 4 = _ by unfold ahd; exact if_neg (fun z => by rw [hx] at z; cases z.1)]
        exact u8.s.get (by walk_at "mem")
      | 5, e =>
        cases e
        refine ⟨n5, ?_⟩
        rw [show ahd x 5 = _ by unfold ahd; exact if_neg (fun z => by rw [hx] at z; cases z.1)]
        exact u8.s.get (by walk_at "mem")
      | 6, e =>
        cases e
        refine ⟨n6, ?_⟩
        rw [show ahd x 6 = _ by unfold ahd; exact if_neg (fun z => by rw [hx] at z; cases z.1)]
        exact u8.s.get (by walk_at "mem")
      | 7, e =>
        cases e
        refine ⟨n7, ?_⟩
        rw [show ahd x 7 = _ by unfold ahd; exact if_neg (fun z => by rw [hx] at z; cases z.1)]
        exact u8.s.get (by walk_at "mem")
      | 8, e =>
        cases e
        refine ⟨n8, ?_⟩
        rw [show ahd x 8 = _ by unfold ahd; exact if_neg (fun z => by rw [hx] at z; cases z.1)]
        exact u8.s.get (by walk_at "mem")
      | k + 9, e => cases e
/-- with a number it goes -/
def spAheadN (K : PySem.W.Frag) : Sp := fun vs H Q _ => ∃ (a : Addr) (i j z : Int), vs = [.ref a, .int z] ∧ IsNum K (nt H) (.ref a) i j ∧ (j ≠ 0 ∧ i ≠ 0 ∧ i.natAbs < 2 ^ 200 ∧ j.natAbs < 2 ^ 200 ∧ z.natAbs < 2 ^ 200) ∧ LamX.Tabs (TL K) H ∧
  ∀ (r : Addr) (ts : List Addr) (H' : Hp), nt H r = none → Stt (nt H) [] [(r, Is (.lst (ts.map V.ref)))] H' → LamX.Tabs (TL K) H' → ts.length = 9 → (∀ t ∈ ts, nt H t = none ∧ H' t = some (.tup [.str "goes"])) → Q (.ref r) H'
section
variable {Hb H : Hp} {l : Led} {Q : VK}
theorem arR {a : Addr} {i j z : Int} (s : StT K Hb l H) (hA : IsNum K Hb (.ref a) i j) (hz : j ≠ 0 ∧ i ≠ 0 ∧ i.natAbs < 2 ^ 200 ∧ j.natAbs < 2 ^ 200 ∧ z.natAbs < 2 ^ 200) : Ar K H (.int z) (.ref a) z 1 i j :=
  ⟨.int, hA.kp0 s.s.keep, by decide, hz.1, hz.2.2.2.2, by decide, hz.2.2.1, hz.2.2.2.1⟩
theorem arR2 {a : Addr} {i j z : Int} (s : StT K Hb l H) (hA : IsNum K Hb (.ref a) i j) (hz : j ≠ 0 ∧ i ≠ 0 ∧ i.natAbs < 2 ^ 200 ∧ j.natAbs < 2 ^ 200 ∧ z.natAbs < 2 ^ 200) : Ar K H (.ref a) (.int z) i j z 1 :=
  ⟨hA.kp0 s.s.keep, .int, hz.1, by decide, hz.2.2.1, hz.2.2.2.1, hz.2.2.2.2, by decide⟩
theorem ht_binRG0 {C' : Addr} {sp : Sp} {E : XK} {a : Addr} {i j z : Int} {Q' : VK} (hC : C' = He.ga K "Span") (s : StT K Hb l H) (hA : IsNum K Hb (.ref a) i j) (h : sp [.int z, .ref a] H Q' E) : rBinR C' (swp sp) E (.int z) (.ref a) H Q' := by
  subst hC
  rcases hA.kp0 s.s.keep with ⟨e, _⟩ | ⟨p, o, e, h1, dx, rfl⟩
  · cases e
  · cases e
    exact ⟨z, a, dx, _, rfl, rfl, h1, .int z, .ref a, rfl, h⟩
theorem ht_binRG {C' : Addr} {sp sp2 : Sp} {E E2 : XK} {a : Addr} {i j z : Int} {m : Bool} {σ : L2.St} {Q' : VK} (hC : C' = He.ga K "Span") (s : StT K Hb l H) (hA : IsNum K Hb (.ref a) i j) (e0 : σ[0]? = some (some (.ref a))) (e1 : σ[1]? = some (some (.int z))) (h : sp [.int z, .ref a] H Q' E) :
    tOp (fun x y H Q => rBinR C' (swp sp) E x y H Q ∨ rBinRO C' m sp2 E2 x y H Q) (tVar 1) (tVar 0) σ H Q' := ⟨_, e1, _, e0, .inl (ht_binRG0 hC s hA h)⟩
theorem ht_cmpRG {C' : Addr} {sp sp2 : Sp} {E E2 : XK} {a : Addr} {i j z : Int} {σ : L2.St} {Q' : VK} (hC : C' = He.ga K "Span") (s : StT K Hb l H) (hA : IsNum K Hb (.ref a) i j) (e0 : σ[0]? = some (some (.ref a))) (e1 : σ[1]? = some (some (.int z))) (h : sp [.ref a, .int z] H Q' E) :
    tOp (fun x y H Q => rCmpR C' IsI sp E x y H Q ∨ rCmpR C' IsOth sp2 E2 x y H Q) (tVar 1) (tVar 0) σ H Q' := by
  subst hC
  rcases hA.kp0 s.s.keep with ⟨e, _⟩ | ⟨p, o, e, h1, dx, rfl⟩
  · cases e
  · cases e
    exact ⟨_, e1, _, e0, .inl ⟨a, dx, _, rfl, h1, ⟨z, rfl⟩, h⟩⟩
end
local macro_rules | `(tactic| walk_at "ht") => `(tactic| first
  | exact ht_binRG rfl (by assumption) (by assumption) rfl rfl (Or.inl (arSpG (arR (by assumption) (by assumption) (by assumption)) (by assumption)))
  | exact ht_binRG rfl (by assumption) (by assumption) rfl rfl (Or.inl (quoSpG (arR (by assumption) (by assumption) (by assumption)) (by assumption) (by assumption)))
  | exact ht_cmpRG rfl (by assumption) (by assumption) rfl rfl (Or.inl (gapSpG (arR2 (by assumption) (by assumption) (by assumption)) (by assumption))))
local macro_rules | `(tactic| walk_at "ask") => `(tactic| ((with_reducible refine' lamG ?v0 ?v1 ?v2 ?_); (case v0 => assumption); (case v1 => assumption); (case v2 => intro _ _ _ _ _; walk_at "ht"); intro _ _ _ _))
theorem ok_l_aheadN (T : Txt K mg) (hT : ∀ p ∈ cts tf K, LamX.TabB base mg p.1 p.2) : FnOk P w K mg base CX0 11 (He.fAd K ("_law_ahead", none)) T.fd_l_ahead ["_law_a", "_law_x"] (spAheadN K) := by
  refine okC (p := ("_law_ahead", none)) T.F_l_ahead sc_l_ahead (fun vs H Q E h => ?_) (fun A outer s H vs Q E hr h => ?_)
  · obtain ⟨a, i, j, z, rfl, _⟩ := h
    rfl
  · obtain ⟨a, i, j, z, rfl, hA, hz, tb, k⟩ := h
    refine ⟨_, PSs.nox (pss_cons (ps_asg (pe_lst (pa_cons (pe_tried (k := 8) T rfl (hT _ (List.mem_map.mpr ⟨("_law_ahead", none), by decide, rfl⟩)) rfl (tl_mem (d := ("_law_ahead", none)) (by decide)) (tl_uniq T (d := ("_law_ahead", none)) (by decide)) hr (LamX.lamS_by (show LamX.lamSB (defScope s_l_ahead) _ = true by decide +kernel)) rfl (fun _ _ _ _ _ => rfl) (fun A outer s H E f c' hr2 => (by exact (pe_op (op_both (by exact op_binR (bo_add T) declB_add (ok_Span_raddC T) T.b_Span_radd (hr2.mono (by decide)) (passes_call (takes_of rfl rfl rfl rfl) (fun _ _ _ _ h => h))) (by exact op_binRO (isMod := false) (by decide +kernel) (bo_add T) T.od_add declBB_add (ok_Span_raddC T) T.b_Span_radd (hr2.mono (by decide)) (passes_call (takes_of rfl rfl rfl rfl) (fun _ _ _ _ h => h)))) (pv 1) (pv 0))))) pa_nil)) (pg_name (i := 2) sc_l_ahead.nd rfl (by first | exact Or.inl rfl | exact Or.inr rfl)))
  (pss_cons (ps_expr (pe_bm PySem.F.plainAttrs_list PySem.F.slot_list_append PySem.F.type_list_append mt_append (pv 2) (pa_cons (pe_tried (k := 8) T rfl (hT _ (List.mem_map.mpr ⟨("_law_ahead", none), by decide, rfl⟩)) rfl (tl_mem (d := ("_law_ahead", none)) (by decide)) (tl_uniq T (d := ("_law_ahead", none)) (by decide)) hr (LamX.lamS_by (show LamX.lamSB (defScope s_l_ahead) _ = true by decide +kernel)) rfl (fun _ _ _ _ _ => rfl) (fun A outer s H E f c' hr2 => (by exact (pe_op (op_both (by exact op_binR (bo_sub T) declB_sub (ok_Span_rsubC T) T.b_Span_rsub (hr2.mono (by decide)) (passes_call (takes_of rfl rfl rfl rfl) (fun _ _ _ _ h => h))) (by exact op_binRO (isMod := false) (by decide +kernel) (bo_sub T) T.od_sub declBB_sub (ok_Span_rsubC T) T.b_Span_rsub (hr2.mono (by decide)) (passes_call (takes_of rfl rfl rfl rfl) (fun _ _ _ _ h => h)))) (pv 1) (pv 0))))) pa_nil)))
  (pss_cons (ps_expr (pe_bm PySem.F.plainAttrs_list PySem.F.slot_list_append PySem.F.type_list_append mt_append (pv 2) (pa_cons (pe_tried (k := 8) T rfl (hT _ (List.mem_map.mpr ⟨("_law_ahead", none), by decide, rfl⟩)) rfl (tl_mem (d := ("_law_ahead", none)) (by decide)) (tl_uniq T (d := ("_law_ahead", none)) (by decide)) hr (LamX.lamS_by (show LamX.lamSB (defScope s_l_ahead) _ = true by decide +kernel)) rfl (fun _ _ _ _ _ => rfl) (fun A outer s H E f c' hr2 => (by exact (pe_op (op_both (by exact op_binR (bo_mul T) declB_mul (ok_Span_rmulC T) T.b_Span_rmul (hr2.mono (by decide)) (passes_call (takes_of rfl rfl rfl rfl) (fun _ _ _ _ h => h))) (by exact op_binRO (isMod := false) (by decide +kernel) (bo_mul T) T.od_mul declBB_mul (ok_Span_rmulC T) T.b_Span_rmul (hr2.mono (by decide)) (passes_call (takes_of rfl rfl rfl rfl) (fun _ _ _ _ h => h)))) (pv 1) (pv 0))))) pa_nil)))
  (pss_cons (ps_expr (pe_bm PySem.F.plainAttrs_list PySem.F.slot_list_append PySem.F.type_list_append mt_append (pv 2) (pa_cons (pe_tried (k := 8) T rfl (hT _ (List.mem_map.mpr ⟨("_law_ahead", none), by decide, rfl⟩)) rfl (tl_mem (d := ("_law_ahead", none)) (by decide)) (tl_uniq T (d := ("_law_ahead", none)) (by decide)) hr (LamX.lamS_by (show LamX.lamSB (defScope s_l_ahead) _ = true by decide +kernel)) rfl (fun _ _ _ _ _ => rfl) (fun A outer s H E f c' hr2 => (by exact (pe_op (op_both (by exact op_binR (bo_floordiv T) declB_floordiv (ok_Span_rfloordivC T) T.b_Span_rfloordiv (hr2.mono (by decide)) (passes_call (takes_of rfl rfl rfl rfl) (fun _ _ _ _ h => h))) (by exact op_binRO (isMod := false) (by decide +kernel) (bo_floordiv T) T.od_floordiv declBB_floordiv (ok_Span_rfloordivC T) T.b_Span_rfloordiv (hr2.mono (by decide)) (passes_call (takes_of rfl rfl rfl rfl) (fun _ _ _ _ h => h)))) (pv 1) (pv 0))))) pa_nil)))
  (pss_cons (ps_expr (pe_bm PySem.F.plainAttrs_list PySem.F.slot_list_append PySem.F.type_list_append mt_append (pv 2) (pa_cons (pe_tried (k := 8) T rfl (hT _ (List.mem_map.mpr ⟨("_law_ahead", none), by decide, rfl⟩)) rfl (tl_mem (d := ("_law_ahead", none)) (by decide)) (tl_uniq T (d := ("_law_ahead", none)) (by decide)) hr (LamX.lamS_by (show LamX.lamSB (defScope s_l_ahead) _ = true by decide +kernel)) rfl (fun _ _ _ _ _ => rfl) (fun A outer s H E f c' hr2 => (by exact pe_ifExp (pt_val (pe_callB (call_isiK (K := K) rfl) (by rfl) T.n_isinstance (by decide +kernel) (pa_cons (pv 1) (pa_cons (pe_bltn (v := .ty "str") (by rfl) T.n_str (by decide +kernel) (show RelV (.ty "str") (.type "str") from rfl)) pa_nil)))) pe_int (pe_op (op_both (by exact op_binR (bo_mod T) declB_mod (ok_Span_rmodC T) T.b_Span_rmod (hr2.mono (by decide)) (passes_call (takes_of rfl rfl rfl rfl) (fun _ _ _ _ h => h))) (by exact op_binRO (isMod := true) (by decide +kernel) (bo_mod T) T.od_mod declBB_mod (ok_Span_rmodC T) T.b_Span_rmod (hr2.mono (by decide)) (passes_call (takes_of rfl rfl rfl rfl) (fun _ _ _ _ h => h)))) (pv 1) (pv 0))))) pa_nil)))
  (pss_cons (ps_expr (pe_bm PySem.F.plainAttrs_list PySem.F.slot_list_append PySem.F.type_list_append mt_append (pv 2) (pa_cons (pe_tried (k := 8) T rfl (hT _ (List.mem_map.mpr ⟨("_law_ahead", none), by decide, rfl⟩)) rfl (tl_mem (d := ("_law_ahead", none)) (by decide)) (tl_uniq T (d := ("_law_ahead", none)) (by decide)) hr (LamX.lamS_by (show LamX.lamSB (defScope s_l_ahead) _ = true by decide +kernel)) rfl (fun _ _ _ _ _ => rfl) (fun A outer s H E f c' hr2 => (by exact pe_cmpR (op_both (by exact op_refl (op := .Lt) (fun _ _ => rfl) (declines_int_lt T.su_int) T.m_Span_gt.at_ T.m_Span_gt.fn (ok_Span_gtC T) T.b_Span_gt (hr2.mono (by decide)) (passes_call (takes_of rfl rfl rfl rfl) (fun _ _ _ _ h => h))) (by exact op_refl (op := .Lt) (fun _ _ => rfl) (declines_oth_lt (noSub T)) T.m_Span_gt.at_ T.m_Span_gt.fn (ok_Span_gtC T) T.b_Span_gt (hr2.mono (by decide)) (passes_call (takes_of rfl rfl rfl rfl) (fun _ _ _ _ h => h)))) (pv 1) (pv 0) (nomark _)))) pa_nil)))
  (pss_cons (ps_expr (pe_bm PySem.F.plainAttrs_list PySem.F.slot_list_append PySem.F.type_list_append mt_append (pv 2) (pa_cons (pe_tried (k := 8) T rfl (hT _ (List.mem_map.mpr ⟨("_law_ahead", none), by decide, rfl⟩)) rfl (tl_mem (d := ("_law_ahead", none)) (by decide)) (tl_uniq T (d := ("_law_ahead", none)) (by decide)) hr (LamX.lamS_by (show LamX.lamSB (defScope s_l_ahead) _ = true by decide +kernel)) rfl (fun _ _ _ _ _ => rfl) (fun A outer s H E f c' hr2 => (by exact pe_cmpR (op_both (by exact op_refl (op := .LtE) (fun _ _ => rfl) (declines_int_le T.su_int) T.m_Span_ge.at_ T.m_Span_ge.fn (ok_Span_geC T) T.b_Span_ge (hr2.mono (by decide)) (passes_call (takes_of rfl rfl rfl rfl) (fun _ _ _ _ h => h))) (by exact op_refl (op := .LtE) (fun _ _ => rfl) (declines_oth_le (noSub T)) T.m_Span_ge.at_ T.m_Span_ge.fn (ok_Span_geC T) T.b_Span_ge (hr2.mono (by decide)) (passes_call (takes_of rfl rfl rfl rfl) (fun _ _ _ _ h => h)))) (pv 1) (pv 0) (nomark _)))) pa_nil)))
  (pss_cons (ps_expr (pe_bm PySem.F.plainAttrs_list PySem.F.slot_list_append PySem.F.type_list_append mt_append (pv 2) (pa_cons (pe_tried (k := 8) T rfl (hT _ (List.mem_map.mpr ⟨("_law_ahead", none), by decide, rfl⟩)) rfl (tl_mem (d := ("_law_ahead", none)) (by decide)) (tl_uniq T (d := ("_law_ahead", none)) (by decide)) hr (LamX.lamS_by (show LamX.lamSB (defScope s_l_ahead) _ = true by decide +kernel)) rfl (fun _ _ _ _ _ => rfl) (fun A outer s H E f c' hr2 => (by exact pe_cmpR (op_both (by exact op_refl (op := .Gt) (fun _ _ => rfl) (declines_int_gt T.su_int) T.m_Span_lt.at_ T.m_Span_lt.fn (ok_Span_ltC T) T.b_Span_lt (hr2.mono (by decide)) (passes_call (takes_of rfl rfl rfl rfl) (fun _ _ _ _ h => h))) (by exact op_refl (op := .Gt) (fun _ _ => rfl) (declines_oth_gt (noSub T)) T.m_Span_lt.at_ T.m_Span_lt.fn (ok_Span_ltC T) T.b_Span_lt (hr2.mono (by decide)) (passes_call (takes_of rfl rfl rfl rfl) (fun _ _ _ _ h => h)))) (pv 1) (pv 0) (nomark _)))) pa_nil)))
  (pss_cons (ps_expr (pe_bm PySem.F.plainAttrs_list PySem.F.slot_list_append PySem.F.type_list_append mt_append (pv 2) (pa_cons (pe_tried (k := 8) T rfl (hT _ (List.mem_map.mpr ⟨("_law_ahead", none), by decide, rfl⟩)) rfl (tl_mem (d := ("_law_ahead", none)) (by decide)) (tl_uniq T (d := ("_law_ahead", none)) (by decide)) hr (LamX.lamS_by (show LamX.lamSB (defScope s_l_ahead) _ = true by decide +kernel)) rfl (fun _ _ _ _ _ => rfl) (fun A outer s H E f c' hr2 => (by exact pe_cmpR (op_both (by exact op_refl (op := .GtE) (fun _ _ => rfl) (declines_int_ge T.su_int) T.m_Span_le.at_ T.m_Span_le.fn (ok_Span_leC T) T.b_Span_le (hr2.mono (by decide)) (passes_call (takes_of rfl rfl rfl rfl) (fun _ _ _ _ h => h))) (by exact op_refl (op := .GtE) (fun _ _ => rfl) (declines_oth_ge (noSub T)) T.m_Span_le.at_ T.m_Span_le.fn (ok_Span_leC T) T.b_Span_le (hr2.mono (by decide)) (passes_call (takes_of rfl rfl rfl rfl) (fun _ _ _ _ h => h)))) (pv 1) (pv 0) (nomark _)))) pa_nil)))
  (pss_one (ps_ret (pv 2)))))))))))), ?_⟩
    walk_at "k"
    have nT : NoT (nt H) := nt_no
    have hz2 := hz.2.1
    have s0 : StT K (nt H) [] H := ⟨stt_nt, tb, noTl_nil⟩
    walk_at "rd"
    rename_i r0 G0 n0 t0 p Gp np tp r1 G1 n1 t1 J1 u1 r2 G2 n2 t2 J2 u2 r3 G3 n3 t3 J3 u3
    refine lamG nT u3 (fun H2 E' Q' s2 hQ => ?_) fun r4 G4 n4 t4 => ?_
    · clear u3 u2 u1 tp t0 t1 t2 t3 s0
      walk_at "rd"
      exact Or.inl (ht_binRG0 (sp := spremainderC K) rfl s2 hA (Or.inl (remSpG (arR s2 hA hz) hz2 hQ)))
    clear u3 u2 u1 tp t0 t1 t2 t3 s0
    walk_at "rd"
    rename_i J4 u4 r5 G5 n5 t5 J5 u5 r6 G6 n6 t6 J6 u6 r7 G7 n7 t7 J7 u7 r8 G8 n8 t8 J8 u8
    refine k p [r0, r1, r2, r3, r4, r5, r6, r7, r8] _ np (u8.s.sub (List.Sublist.cons _ (List.Sublist.cons _ (List.Sublist.cons _ (List.Sublist.cons _ (List.Sublist.cons _ (List.Sublist.cons _ (List.Sublist.cons _ (List.Sublist.cons _ (List.Sublist.cons₂ _ (List.nil_sublist _))))))))))) u8.tb rfl ?_
    exact List.forall_mem_cons.mpr ⟨⟨n0, u8.s.get (by walk_at "mem")⟩, List.forall_mem_cons.mpr ⟨⟨n1, u8.s.get (by walk_at "mem")⟩, List.forall_mem_cons.mpr ⟨⟨n2, u8.s.get (by walk_at "mem")⟩, List.forall_mem_cons.mpr ⟨⟨n3, u8.s.get (by walk_at "mem")⟩, List.forall_mem_cons.mpr ⟨⟨n4, u8.s.get (by walk_at "mem")⟩, List.forall_mem_cons.mpr ⟨⟨n5, u8.s.get (by walk_at "mem")⟩, List.forall_mem_cons.mpr ⟨⟨n6, u8.s.get (by walk_at "mem")⟩, List.forall_mem_cons.mpr ⟨⟨n7, u8.s.get (by walk_at "mem")⟩, List.forall_mem_cons.mpr ⟨⟨n8, u8.s.get (by walk_at "mem")⟩, fun _ h => nomatch h⟩⟩⟩⟩⟩⟩⟩⟩⟩
end

end
section
local macro_rules | `(tactic| walk_at "subl") => `(tactic| first | with_reducible exact List.nil_sublist _ | with_reducible exact List.Sublist.refl _ | (with_reducible refine List.Sublist.cons₂ _ ?_; walk_at "subl") | (with_reducible refine List.Sublist.cons _ ?_; walk_at "subl"))
local macro_rules | `(tactic| walk_at "k") => `(tactic| try dsimp only [L2.cxOf, L2.Cx.nox, L2.Cx.wish, L2.Cx.blk])
local macro_rules | `(tactic| walk_at "ask") => `(tactic| fail)
local macro_rules | `(tactic| walk_at "mem") => `(tactic| first | with_reducible exact List.mem_cons_self | (with_reducible apply List.mem_cons_of_mem; walk_at "mem"))
local macro_rules | `(tactic| walk_at "put") => `(tactic| first | with_reducible exact Lt.Put.head | (with_reducible apply Lt.Put.tail; walk_at "put"))
local macro_rules | `(tactic| walk_at "own") => `(tactic| first | exact Or.inr (by assumption) | exact Or.inl (by walk_at "mem"))
local macro_rules | `(tactic| walk_at "cnd") => `(tactic| first | assumption | decide | ((try dsimp only); omega) | (unfold CMul; omega) | (unfold CDiv; omega) | (unfold CPow; omega) | exact Or.inr (by decide) | exact Or.inl (by decide) | exact wide_div (b := 128) (by omega) (by omega) (by decide) (by decide))
local macro_rules | `(tactic| walk_at "at") => `(tactic| first | exact rfl | assumption)
local macro_rules | `(tactic| walk_at "kit") => `(tactic| first | assumption | exact kit_int_int | exact kit_int_bool | exact kit_int_str | exact kit_int_list | exact kit_int_tuple | exact kit_int_dict | exact kit_bool_int | exact kit_bool_bool | exact kit_bool_str | exact kit_bool_list | exact kit_bool_tuple | exact kit_bool_dict | exact kit_str_int | exact kit_str_bool | exact kit_str_str | exact kit_str_list | exact kit_str_tuple | exact kit_str_dict | exact kit_list_int | exact kit_list_bool | exact kit_list_str | exact kit_list_list | exact kit_list_tuple | exact kit_list_dict | exact kit_tuple_int | exact kit_tuple_bool | exact kit_tuple_str | exact kit_tuple_list | exact kit_tuple_tuple | exact kit_tuple_dict | exact kit_dict_int | exact kit_dict_bool | exact kit_dict_str | exact kit_dict_list | exact kit_dict_tuple | exact kit_dict_dict | exact kit_NoneType_int | exact kit_NoneType_bool | exact kit_NoneType_str | exact kit_NoneType_list | exact kit_NoneType_tuple | exact kit_NoneType_dict)
local macro_rules | `(tactic| walk_at "kitA") => `(tactic| first | assumption | exact kitA_lt_int | exact kitA_lt_bool | exact kitA_lt_str | exact kitA_lt_list | exact kitA_lt_tuple | exact kitA_lt_dict | exact kitA_lt_NoneType | exact kitA_bilt_int | exact kitA_bilt_bool | exact kitA_bilt_str | exact kitA_bilt_list | exact kitA_bilt_tuple | exact kitA_bilt_dict | exact kitA_bilt_NoneType)
local macro_rules | `(tactic| walk_at "ty") => `(tactic| first | exact .base (.int _) | exact .base (.bl _) | exact .base (.str _) | exact .base .non | exact .base (.lst (Stt.get (by assumption) (by walk_at "mem"))) | exact .base (.tup (Stt.get (by assumption) (by walk_at "mem"))) | exact .base (.dK (Stt.get (by assumption) (by walk_at "mem"))) | exact sqL_ty (Stt.upL (by assumption) (by assumption)) | exact sqT_ty (Stt.upT (by assumption) (by assumption)) | exact InsT.ty (by assumption) (Stt.get (by assumption) (by walk_at "mem")) | assumption)
local macro_rules | `(tactic| walk_at "rd1") => `(tactic| first
  | with_reducible refine' Rd.seq ?_
  | with_reducible refine' Rd.asg ?_
  | ((with_reducible refine' Rd.var ?vh ?_); (case vh => exact rfl))
  | with_reducible refine' Rd.con ?_
  | with_reducible refine' Rd.op ?_
  | with_reducible refine' Rd.i0 ?_
  | ((with_reducible refine' Rd.ic ?vh ?_); (case vh => walk_at "cnd"))
  | ((with_reducible refine' Rd.ixL ?v1 ?v2 ?v3 ?_); (case v1 => assumption); (case v2 => walk_at "mem"); (case v3 => walk_at "at"))
  | ((with_reducible refine' Rd.ixT ?v1 ?v2 ?v3 ?_); (case v1 => assumption); (case v2 => walk_at "mem"); (case v3 => walk_at "at"))
  | ((with_reducible refine' Rd.ixD2 ?v1 ?v2 ?_); (case v1 => assumption); (case v2 => walk_at "mem"); intro _)
  | ((with_reducible refine' Rd.ixD3 ?v1 ?v2 ?_); (case v1 => assumption); (case v2 => walk_at "mem"); intro _)
  | ((with_reducible refine' Rd.setD2 ?v1 ?v2 ?v3 ?v4 ?_); (case v1 => assumption); (case v2 => walk_at "mem"); (case v3 => walk_at "put"); (case v4 => walk_at "own"); intro _ _)
  | ((with_reducible refine' Rd.isi ?v1 ?v2 ?v3 ?_); (case v1 => walk_at "ty"); (case v2 => first | exact ClsV.ty _ | exact ClsV.own _); (case v3 => walk_at "kit"))
  | with_reducible refine' Rd.fld ?_
  | ((with_reducible refine' Rd.fldI ?v1 ?v2 ?v3 ?v4 ?v5 ?_); (case v1 => assumption); (case v2 => walk_at "mem"); (case v3 => assumption); (case v4 => assumption); (case v5 => walk_at "at"))
  | with_reducible refine' Rd.sfld ?_
  | ((with_reducible refine' Rd.sfldI ?v1 ?v2 ?v3 ?v4 ?v5 ?v6 ?v7 ?_); (case v1 => assumption); (case v2 => walk_at "mem"); (case v3 => assumption); (case v4 => assumption); (case v5 => first | decide | (refine Nat.lt_of_le_of_lt (putF_len _ _ _) ?_; decide)); (case v6 => walk_at "put"); (case v7 => walk_at "own"); intro _ _)
  | with_reducible refine' Rd.make ?_
  | with_reducible refine' Rd.gcd ?_
  | with_reducible refine' Rd.cons ?_
  | with_reducible refine' Rd.nil ?_
  | with_reducible refine' Rd.cb ?_
  | with_reducible refine' Rd.intI ?_
  | with_reducible refine' Rd.absI ?_
  | ((with_reducible refine' Rd.lenL ?v1 ?v2 ?_); (case v1 => assumption); (case v2 => walk_at "mem"))
  | ((with_reducible refine' Rd.lenT ?v1 ?v2 ?_); (case v1 => assumption); (case v2 => walk_at "mem"))
  | ((with_reducible refine' Rd.lenBL ?v1 ?v2 ?v3 ?_); (case v1 => assumption); (case v2 => assumption); (case v3 => first | exact List.not_mem_nil | assumption))
  | ((with_reducible refine' Rd.lenBT ?v1 ?v2 ?v3 ?_); (case v1 => assumption); (case v2 => assumption); (case v3 => first | exact List.not_mem_nil | assumption))
  | ((with_reducible refine' Rd.ixBL ?v1 ?v2 ?v4 ?v3 ?_); (case v1 => assumption); (case v2 => assumption); (case v4 => first | exact List.not_mem_nil | assumption); (case v3 => walk_at "at"))
  | ((with_reducible refine' Rd.ixBT ?v1 ?v2 ?v4 ?v3 ?_); (case v1 => assumption); (case v2 => assumption); (case v4 => first | exact List.not_mem_nil | assumption); (case v3 => walk_at "at"))
  | ((with_reducible refine' Rd.brI ?vh ?_); (case vh => with_reducible exact rfl))
  | with_reducible refine' Rd.ifS ?_
  | with_reducible refine' Rd.test ?_
  | with_reducible refine' Rd.tbl ?_
  | with_reducible refine' Rd.bl ?_
  | with_reducible refine' Rd.brTT ?_
  | with_reducible refine' Rd.brFF ?_
  | with_reducible refine' Rd.brN ?_
  | ((with_reducible refine' Rd.aug ?vh ?_); (case vh => exact rfl))
  | with_reducible refine' Rd.ipI ?_
  | with_reducible refine' Rd.blV ?_
  | with_reducible refine' Rd.notVL ?_
  | with_reducible refine' Rd.andT ?_
  | with_reducible refine' Rd.orT ?_
  | with_reducible refine' Rd.notT ?_
  | with_reducible refine' Rd.andV ?_
  | with_reducible refine' Rd.orV ?_
  | with_reducible refine' Rd.notV ?_
  | with_reducible refine' Rd.ifE ?_
  | ((with_reducible refine' Rd.eqS ?vh ?_); (case vh => exact rfl))
  | ((with_reducible refine' Rd.neS ?vh ?_); (case vh => exact rfl))
  | with_reducible refine' Rd.par ?_
  | with_reducible refine' Rd.parL ?_
  | with_reducible refine' Rd.un ?_
  | with_reducible refine' Rd.u1 ?_
  | with_reducible refine' Rd.sub ?_
  | ((with_reducible refine' Rd.setL ?v1 ?v2 ?v3 ?v4 ?v5 ?_); (case v1 => assumption); (case v2 => walk_at "mem"); (case v3 => walk_at "at"); (case v4 => walk_at "put"); (case v5 => walk_at "own"); intro _ _)
  | with_reducible refine' Rd.tup ?_
  | with_reducible refine' Rd.lst ?_
  | ((with_reducible refine' Rd.tupN ?v1 ?v2 ?_); (case v1 => assumption); (case v2 => simp only [List.length_cons, List.length_nil]; decide); intro _ _ _ _)
  | ((with_reducible refine' Rd.lstN ?v1 ?v2 ?_); (case v1 => assumption); (case v2 => simp only [List.length_cons, List.length_nil]; decide); intro _ _ _ _)
  | with_reducible refine' Rd.ret ?_
  | with_reducible refine' Rd.drop ?_
  | with_reducible refine' Rd.retN ?_
  | with_reducible refine' Rd.next ?_
  | with_reducible refine' Rd.brk ?_
  | with_reducible refine' Rd.cont ?_
  | with_reducible refine' Rd.call ?_
  | walk_at "ask"
  | with_reducible refine' Rd.bm ?_
  | ((with_reducible refine' Rd.bmL ?v1 ?v2 ?_); (case v1 => assumption); (case v2 => walk_at "mem"))
  | ((with_reducible refine' Rd.app ?v1 ?v2 ?v3 ?v4 ?v5 ?_); (case v1 => assumption); (case v2 => walk_at "mem"); (case v3 => simp only [List.length_cons, List.length_nil, List.length_append]; omega); (case v4 => walk_at "put"); (case v5 => walk_at "own"); intro _ _)
  | with_reducible refine' Rd.asgT ?_
  | ((with_reducible refine' Rd.gtup ?v1 ?v2 ?v3 ?_); (case v1 => assumption); (case v2 => walk_at "mem"); (case v3 => exact rfl))
  | with_reducible refine' Rd.gcons ?_
  | with_reducible refine' Rd.gname ?_
  | with_reducible refine' Rd.gnil ?_
  | with_reducible refine' Rd.sl ?_
  | with_reducible refine' Rd.noPart ?_
  | with_reducible refine' Rd.part ?_
  | with_reducible refine' Rd.prt ?_
  | with_reducible refine' Rd.isB ?_
  | ((with_reducible refine' Rd.wp ?vh ?_); (case vh => exact rfl))
  | with_reducible refine' Rd.makeK ?_
  | with_reducible refine' Rd.meth ?_
  | ((with_reducible refine' Rd.catL ?v1 ?v2 ?v3 ?v4 ?_); (case v1 => assumption); (case v2 => walk_at "mem"); (case v3 => walk_at "mem"); (case v4 => simp only [List.length_cons, List.length_nil, List.length_append]; omega); intro _ _ _ _)
  | with_reducible refine' Rd.dnew ?_
  | ((with_reducible refine' Rd.dnewL ?v1 ?_); (case v1 => assumption); intro _ _ _ _)
  | with_reducible refine' Rd.lc ?_
  | with_reducible refine' Rd.wZ ?_
  | with_reducible refine' Rd.tYesH ?_
  | with_reducible refine' Rd.fmt ?_
  | with_reducible refine' Rd.joined ?_
  | with_reducible refine' Rd.jsNil ?_
  | with_reducible refine' Rd.jsCons ?_
  | ((with_reducible refine' Rd.isiT ?v1 ?v2 ?v3 ?v4 ?v5 ?_); (case v1 => assumption); (case v2 => walk_at "mem"); (case v3 => walk_at "ty"); (case v4 => first | exact .cons (.ty _) (.cons (.ty _) .nil) | exact .cons (.ty _) (.cons (.ty _) (.cons (.ty _) (.cons (.ty _) .nil))) | exact .cons (.ty _) (.cons (.ty _) (.cons (.ty _) .nil))); (case v5 => walk_at "kitA"))
  | with_reducible refine' Rd.forS ?_
  | with_reducible refine' Rd.wEnT ?_
  | ((with_reducible refine' Rd.wEnTL ?v1 ?v2 ?_); (case v1 => assumption); (case v2 => walk_at "mem"))
  | with_reducible refine' Rd.wL ?_
  | ((with_reducible refine' Rd.wLL ?v1 ?v2 ?_); (case v1 => assumption); (case v2 => walk_at "mem"))
  | with_reducible refine' Rd.wT ?_
  | ((with_reducible refine' Rd.wTL ?v1 ?v2 ?_); (case v1 => assumption); (case v2 => walk_at "mem"))
  | with_reducible refine' Rd.wR1 ?_
  | ((with_reducible refine' Rd.wR1L ?v1 ?v2 ?_); (case v1 => omega); (case v2 => omega))
  | with_reducible refine' Rd.wR2 ?_
  | ((with_reducible refine' Rd.wR2L ?v1 ?_); (case v1 => omega)))
local macro_rules | `(tactic| walk_at "rd") => `(tactic| repeat (walk_at "rd1"))

section
variable {P : Program} {w : World} {K : PySem.W.Frag} {mg : Str → Option Value} {base : Heap}
/-! ### an object that is no number, drawn -/
theorem flatB_i (i : Int) : flatB (V.int i) = true := rfl
inductive OddV (H0 H : Hp) : V → Prop where
  | non : OddV H0 H .non
  | bl (b : Bool) : OddV H0 H (.bl b)
  | str (z : Str) : OddV H0 H (.str z)
  | lst {a : Addr} (xs : List Int) (n : H0 a = none) (e : H a = some (.lst (xs.map V.int))) (hl : xs.length ≤ 2) : OddV H0 H (.ref a)
  | tup {a : Addr} (xs : List Int) (n : H0 a = none) (e : H a = some (.tup (xs.map V.int))) (hl : xs.length ≤ 2) : OddV H0 H (.ref a)
  | dct {a : Addr} (kvs : List (Key × V)) (n : H0 a = none) (e : H a = some (.dK kvs)) (nd : (kvs.map (·.1)).Nodup) (f : ∀ q ∈ kvs, flatR q.2) : OddV H0 H (.ref a)
theorem OddV.oth {H0 H : Hp} {v : V} (h : OddV H0 H v) : IsOth v H := by
  cases h with
  | non => exact .inl rfl
  | bl b => exact .inr (.inl ⟨b, rfl⟩)
  | str z => exact .inr (.inr (.inl ⟨z, rfl⟩))
  | lst xs n e _ => exact .inr (.inr (.inr (.inl ⟨_, _, rfl, e⟩)))
  | tup xs n e _ => exact .inr (.inr (.inr (.inr (.inl ⟨_, _, rfl, e⟩))))
  | dct kvs n e _ _ => exact .inr (.inr (.inr (.inr (.inr ⟨_, _, rfl, e⟩))))
theorem disp1c {σ : L2.St} {H0 H : Hp} {S : List Addr} {l : Led} {Q : VK} {z : Str} {v : V} (s : Stt H0 S l H) (k : ∀ p H1, H0 p = none → Stt H0 S ((p, Is (.dK [(.inr z, v)])) :: l) H1 → Q (.ref p) H1) : tDisp [(tC (.str z), tC v)] σ H Q := by
  intro p hp
  refine ⟨upd_same, [(.inr z, v)], rfl, Nat.le_of_ble_eq_true rfl, ?_⟩
  rw [upd_upd]
  exact k p _ (s.none hp) (s.new hp _)
def spOdd : Sp := fun vs H Q _ => ∃ (st c : Addr) (ns : List Int), vs = [.ref st] ∧ Stt H [st] (dled st c ns) H ∧ ns.length ≤ 63 ∧ ∀ v H', OddV H H' v → Stt H [st] (dled st c ns) H' → Q v H'
local macro_rules | `(tactic| walk_at "ask") => `(tactic| first
  | ((with_reducible refine' disp1c ?v1 ?_); (case v1 => assumption); intro _ _ _ _)
  | ((with_reducible refine' one_ask ?v1 ?v2 ?v3 ?v4 ?v5 ?_); (case v1 => assumption); (case v2 => walk_at "subl"); (case v3 => assumption); (case v4 => walk_at "own"); (case v5 => simp only [List.length_append, List.length_cons, List.length_nil]; decide); intro _ _ _ _))
theorem ok_l_odd (T : Txt K mg) : FnOk P w K mg base CX0 4 (He.fAd K ("_law_odd", none)) T.fd_l_odd ["_law_state"] spOdd := by
  refine T.F_l_odd.ok sc_l_odd (fun vs H Q E h => ?_) (fun cdv A outer s H vs Q E hr h => ?_)
  · obtain ⟨st, c, ns, rfl, _⟩ := h
    rfl
  · obtain ⟨st, c, ns, rfl, s0, hl, k⟩ := h
    refine ⟨_, PSs.nox (pss_one (ps_ret (pe_call (ok_l_one T) (hr.mono (by decide)) rfl T.g_l_one T.F_l_one.kp T.b_l_one .nil pass0 (pa_cons (pv 0) (pa_cons (pe_lst (pa_cons pe_non (pa_cons pe_bl (pa_cons pe_bl (pa_cons pe_str (pa_cons pe_str (pa_cons (pe_lst pa_nil) (pa_cons (pe_lst (pa_cons pe_int pa_nil)) (pa_cons (pe_tup pa_nil) (pa_cons (pe_tup (pa_cons pe_int (pa_cons pe_int pa_nil))) (pa_cons pe_dnewK (pa_cons (pe_disp (pps_cons pe_str pe_int pps_nil) rfl rfl (by simp) (by decide)) pa_nil)))))))))))) pa_nil))))), ?_⟩
    walk_at "k"
    walk_at "rd"
    rename_i q1 g1 n1 s1 q2 g2 n2 s2 q3 g3 n3 s3 q4 g4 n4 s4 q5 g5 n5 s5 q6 g6 n6 s6 q7 g7 n7 s7 v g8 hv s8
    refine k _ _ ?_ (s8.sub (by walk_at "subl"))
    simp only [List.mem_cons, List.not_mem_nil, or_false] at hv
    rcases hv with rfl | rfl | rfl | rfl | rfl | rfl | rfl | rfl | rfl | rfl | rfl
    · exact .non
    · exact .bl _
    · exact .bl _
    · exact .str _
    · exact .str _
    · exact .lst [] n1 (show g8 q1 = some (.lst []) from s8.get (by walk_at "mem")) (by decide)
    · exact .lst [1] n2 (show g8 q2 = some (.lst [V.int 1]) from s8.get (by walk_at "mem")) (by decide)
    · exact .tup [] n3 (show g8 q3 = some (.tup []) from s8.get (by walk_at "mem")) (by decide)
    · exact .tup [1, 2] n4 (show g8 q4 = some (.tup [V.int 1, V.int 2]) from s8.get (by walk_at "mem")) (by decide)
    · exact .dct [] n5 (s8.get (by walk_at "mem")) (by simp) (fun _ h => nomatch h)
    · exact .dct [(.inr "a", .int 1)] n6 (s8.get (by walk_at "mem")) (by simp) (fun q hq => by rw [List.mem_singleton.mp hq]; exact .inl rfl)
end

end
section
local macro_rules | `(tactic| walk_at "subl") => `(tactic| first | with_reducible exact List.nil_sublist _ | with_reducible exact List.Sublist.refl _ | (with_reducible refine List.Sublist.cons₂ _ ?_; walk_at "subl") | (with_reducible refine List.Sublist.cons _ ?_; walk_at "subl"))
local macro_rules | `(tactic| walk_at "k") => `(tactic| try dsimp only [L2.cxOf, L2.Cx.nox, L2.Cx.wish, L2.Cx.blk])
local macro_rules | `(tactic| walk_at "ask") => `(tactic| fail)
local macro_rules | `(tactic| walk_at "mem") => `(tactic| first | with_reducible exact List.mem_cons_self | (with_reducible apply List.mem_cons_of_mem; walk_at "mem"))
local macro_rules | `(tactic| walk_at "put") => `(tactic| first | with_reducible exact Lt.Put.head | (with_reducible apply Lt.Put.tail; walk_at "put"))
local macro_rules | `(tactic| walk_at "own") => `(tactic| first | exact Or.inr (by assumption) | exact Or.inl (by walk_at "mem"))
local macro_rules | `(tactic| walk_at "cnd") => `(tactic| first | assumption | decide | ((try dsimp only); omega) | (unfold CMul; omega) | (unfold CDiv; omega) | (unfold CPow; omega) | exact Or.inr (by decide) | exact Or.inl (by decide) | exact wide_div (b := 128) (by omega) (by omega) (by decide) (by decide))
local macro_rules | `(tactic| walk_at "at") => `(tactic| first | exact rfl | assumption)
local macro_rules | `(tactic| walk_at "kit") => `(tactic| first | assumption | exact kit_int_int | exact kit_int_bool | exact kit_int_str | exact kit_int_list | exact kit_int_tuple | exact kit_int_dict | exact kit_bool_int | exact kit_bool_bool | exact kit_bool_str | exact kit_bool_list | exact kit_bool_tuple | exact kit_bool_dict | exact kit_str_int | exact kit_str_bool | exact kit_str_str | exact kit_str_list | exact kit_str_tuple | exact kit_str_dict | exact kit_list_int | exact kit_list_bool | exact kit_list_str | exact kit_list_list | exact kit_list_tuple | exact kit_list_dict | exact kit_tuple_int | exact kit_tuple_bool | exact kit_tuple_str | exact kit_tuple_list | exact kit_tuple_tuple | exact kit_tuple_dict | exact kit_dict_int | exact kit_dict_bool | exact kit_dict_str | exact kit_dict_list | exact kit_dict_tuple | exact kit_dict_dict | exact kit_NoneType_int | exact kit_NoneType_bool | exact kit_NoneType_str | exact kit_NoneType_list | exact kit_NoneType_tuple | exact kit_NoneType_dict)
local macro_rules | `(tactic| walk_at "kitA") => `(tactic| first | assumption | exact kitA_lt_int | exact kitA_lt_bool | exact kitA_lt_str | exact kitA_lt_list | exact kitA_lt_tuple | exact kitA_lt_dict | exact kitA_lt_NoneType | exact kitA_bilt_int | exact kitA_bilt_bool | exact kitA_bilt_str | exact kitA_bilt_list | exact kitA_bilt_tuple | exact kitA_bilt_dict | exact kitA_bilt_NoneType)
local macro_rules | `(tactic| walk_at "ty") => `(tactic| first | exact .base (.int _) | exact .base (.bl _) | exact .base (.str _) | exact .base .non | exact .base (.lst (Stt.get (by assumption) (by walk_at "mem"))) | exact .base (.tup (Stt.get (by assumption) (by walk_at "mem"))) | exact .base (.dK (Stt.get (by assumption) (by walk_at "mem"))) | exact sqL_ty (Stt.upL (by assumption) (by assumption)) | exact sqT_ty (Stt.upT (by assumption) (by assumption)) | exact InsT.ty (by assumption) (Stt.get (by assumption) (by walk_at "mem")) | assumption)
local macro_rules | `(tactic| walk_at "rd1") => `(tactic| first
  | with_reducible refine' Rd.seq ?_
  | with_reducible refine' Rd.asg ?_
  | ((with_reducible refine' Rd.var ?vh ?_); (case vh => exact rfl))
  | with_reducible refine' Rd.con ?_
  | with_reducible refine' Rd.op ?_
  | with_reducible refine' Rd.i0 ?_
  | ((with_reducible refine' Rd.ic ?vh ?_); (case vh => walk_at "cnd"))
  | ((with_reducible refine' Rd.ixL ?v1 ?v2 ?v3 ?_); (case v1 => assumption); (case v2 => walk_at "mem"); (case v3 => walk_at "at"))
  | ((with_reducible refine' Rd.ixT ?v1 ?v2 ?v3 ?_); (case v1 => assumption); (case v2 => walk_at "mem"); (case v3 => walk_at "at"))
  | ((with_reducible refine' Rd.ixD2 ?v1 ?v2 ?_); (case v1 => assumption); (case v2 => walk_at "mem"); intro _)
  | ((with_reducible refine' Rd.ixD3 ?v1 ?v2 ?_); (case v1 => assumption); (case v2 => walk_at "mem"); intro _)
  | ((with_reducible refine' Rd.setD2 ?v1 ?v2 ?v3 ?v4 ?_); (case v1 => assumption); (case v2 => walk_at "mem"); (case v3 => walk_at "put"); (case v4 => walk_at "own"); intro _ _)
  | ((with_reducible refine' Rd.isi ?v1 ?v2 ?v3 ?_); (case v1 => walk_at "ty"); (case v2 => first | exact ClsV.ty _ | exact ClsV.own _); (case v3 => walk_at "kit"))
  | with_reducible refine' Rd.fld ?_
  | ((with_reducible refine' Rd.fldI ?v1 ?v2 ?v3 ?v4 ?v5 ?_); (case v1 => assumption); (case v2 => walk_at "mem"); (case v3 => assumption); (case v4 => assumption); (case v5 => walk_at "at"))
  | with_reducible refine' Rd.sfld ?_
  | ((with_reducible refine' Rd.sfldI ?v1 ?v2 ?v3 ?v4 ?v5 ?v6 ?v7 ?_); (case v1 => assumption); (case v2 => walk_at "mem"); (case v3 => assumption); (case v4 => assumption); (case v5 => first | decide | (refine Nat.lt_of_le_of_lt (putF_len _ _ _) ?_; decide)); (case v6 => walk_at "put"); (case v7 => walk_at "own"); intro _ _)
  | with_reducible refine' Rd.make ?_
  | with_reducible refine' Rd.gcd ?_
  | with_reducible refine' Rd.cons ?_
  | with_reducible refine' Rd.nil ?_
  | with_reducible refine' Rd.cb ?_
  | with_reducible refine' Rd.intI ?_
  | with_reducible refine' Rd.absI ?_
  | ((with_reducible refine' Rd.lenL ?v1 ?v2 ?_); (case v1 => assumption); (case v2 => walk_at "mem"))
  | ((with_reducible refine' Rd.lenT ?v1 ?v2 ?_); (case v1 => assumption); (case v2 => walk_at "mem"))
  | ((with_reducible refine' Rd.lenBL ?v1 ?v2 ?v3 ?_); (case v1 => assumption); (case v2 => assumption); (case v3 => first | exact List.not_mem_nil | assumption))
  | ((with_reducible refine' Rd.lenBT ?v1 ?v2 ?v3 ?_); (case v1 => assumption); (case v2 => assumption); (case v3 => first | exact List.not_mem_nil | assumption))
  | ((with_reducible refine' Rd.ixBL ?v1 ?v2 ?v4 ?v3 ?_); (case v1 => assumption); (case v2 => assumption); (case v4 => first | exact List.not_mem_nil | assumption); (case v3 => walk_at "at"))
  | ((with_reducible refine' Rd.ixBT ?v1 ?v2 ?v4 ?v3 ?_); (case v1 => assumption); (case v2 => assumption); (case v4 => first | exact List.not_mem_nil | assumption); (case v3 => walk_at "at"))
  | ((with_reducible refine' Rd.brI ?vh ?_); (case vh => with_reducible exact rfl))
  | with_reducible refine' Rd.ifS ?_
  | with_reducible refine' Rd.test ?_
  | with_reducible refine' Rd.tbl ?_
  | with_reducible refine' Rd.bl ?_
  | with_reducible refine' Rd.brTT ?_
  | with_reducible refine' Rd.brFF ?_
  | with_reducible refine' Rd.brN ?_
  | ((with_reducible refine' Rd.aug ?vh ?_); (case vh => exact rfl))
  | with_reducible refine' Rd.ipI ?_
  | with_reducible refine' Rd.blV ?_
  | with_reducible refine' Rd.notVL ?_
  | with_reducible refine' Rd.andT ?_
  | with_reducible refine' Rd.orT ?_
  | with_reducible refine' Rd.notT ?_
  | with_reducible refine' Rd.andV ?_
  | with_reducible refine' Rd.orV ?_
  | with_reducible refine' Rd.notV ?_
  | with_reducible refine' Rd.ifE ?_
  | ((with_reducible refine' Rd.eqS ?vh ?_); (case vh => exact rfl))
  | ((with_reducible refine' Rd.neS ?vh ?_); (case vh => exact rfl))
  | with_reducible refine' Rd.par ?_
  | with_reducible refine' Rd.parL ?_
  | with_reducible refine' Rd.un ?_
  | with_reducible refine' Rd.u1 ?_
  | with_reducible refine' Rd.sub ?_
  | ((with_reducible refine' Rd.setL ?v1 ?v2 ?v3 ?v4 ?v5 ?_); (case v1 => assumption); (case v2 => walk_at "mem"); (case v3 => walk_at "at"); (case v4 => walk_at "put"); (case v5 => walk_at "own"); intro _ _)
  | with_reducible refine' Rd.tup ?_
  | with_reducible refine' Rd.lst ?_
  | ((with_reducible refine' Rd.tupN ?v1 ?v2 ?_); (case v1 => assumption); (case v2 => simp only [List.length_cons, List.length_nil]; decide); intro _ _ _ _)
  | ((with_reducible refine' Rd.lstN ?v1 ?v2 ?_); (case v1 => assumption); (case v2 => simp only [List.length_cons, List.length_nil]; decide); intro _ _ _ _)
  | with_reducible refine' Rd.ret ?_
  | with_reducible refine' Rd.drop ?_
  | with_reducible refine' Rd.retN ?_
  | with_reducible refine' Rd.next ?_
  | with_reducible refine' Rd.brk ?_
  | with_reducible refine' Rd.cont ?_
  | with_reducible refine' Rd.call ?_
  | walk_at "ask"
  | with_reducible refine' Rd.bm ?_
  | ((with_reducible refine' Rd.bmL ?v1 ?v2 ?_); (case v1 => assumption); (case v2 => walk_at "mem"))
  | ((with_reducible refine' Rd.app ?v1 ?v2 ?v3 ?v4 ?v5 ?_); (case v1 => assumption); (case v2 => walk_at "mem"); (case v3 => simp only [List.length_cons, List.length_nil, List.length_append]; omega); (case v4 => walk_at "put"); (case v5 => walk_at "own"); intro _ _)
  | with_reducible refine' Rd.asgT ?_
  | ((with_reducible refine' Rd.gtup ?v1 ?v2 ?v3 ?_); (case v1 => assumption); (case v2 => walk_at "mem"); (case v3 => exact rfl))
  | with_reducible refine' Rd.gcons ?_
  | with_reducible refine' Rd.gname ?_
  | with_reducible refine' Rd.gnil ?_
  | with_reducible refine' Rd.sl ?_
  | with_reducible refine' Rd.noPart ?_
  | with_reducible refine' Rd.part ?_
  | with_reducible refine' Rd.prt ?_
  | with_reducible refine' Rd.isB ?_
  | ((with_reducible refine' Rd.wp ?vh ?_); (case vh => exact rfl))
  | with_reducible refine' Rd.makeK ?_
  | with_reducible refine' Rd.meth ?_
  | ((with_reducible refine' Rd.catL ?v1 ?v2 ?v3 ?v4 ?_); (case v1 => assumption); (case v2 => walk_at "mem"); (case v3 => walk_at "mem"); (case v4 => simp only [List.length_cons, List.length_nil, List.length_append]; omega); intro _ _ _ _)
  | with_reducible refine' Rd.dnew ?_
  | ((with_reducible refine' Rd.dnewL ?v1 ?_); (case v1 => assumption); intro _ _ _ _)
  | with_reducible refine' Rd.lc ?_
  | with_reducible refine' Rd.wZ ?_
  | with_reducible refine' Rd.tYesH ?_
  | with_reducible refine' Rd.fmt ?_
  | with_reducible refine' Rd.joined ?_
  | with_reducible refine' Rd.jsNil ?_
  | with_reducible refine' Rd.jsCons ?_
  | ((with_reducible refine' Rd.isiT ?v1 ?v2 ?v3 ?v4 ?v5 ?_); (case v1 => assumption); (case v2 => walk_at "mem"); (case v3 => walk_at "ty"); (case v4 => first | exact .cons (.ty _) (.cons (.ty _) .nil) | exact .cons (.ty _) (.cons (.ty _) (.cons (.ty _) (.cons (.ty _) .nil))) | exact .cons (.ty _) (.cons (.ty _) (.cons (.ty _) .nil))); (case v5 => walk_at "kitA"))
  | with_reducible refine' Rd.forS ?_
  | with_reducible refine' Rd.wEnT ?_
  | ((with_reducible refine' Rd.wEnTL ?v1 ?v2 ?_); (case v1 => assumption); (case v2 => walk_at "mem"))
  | with_reducible refine' Rd.wL ?_
  | ((with_reducible refine' Rd.wLL ?v1 ?v2 ?_); (case v1 => assumption); (case v2 => walk_at "mem"))
  | with_reducible refine' Rd.wT ?_
  | ((with_reducible refine' Rd.wTL ?v1 ?v2 ?_); (case v1 => assumption); (case v2 => walk_at "mem"))
  | with_reducible refine' Rd.wR1 ?_
  | ((with_reducible refine' Rd.wR1L ?v1 ?v2 ?_); (case v1 => omega); (case v2 => omega))
  | with_reducible refine' Rd.wR2 ?_
  | ((with_reducible refine' Rd.wR2L ?v1 ?_); (case v1 => omega)))
local macro_rules | `(tactic| walk_at "rd") => `(tactic| repeat (walk_at "rd1"))

section
variable {P : Program} {w : World} {K : PySem.W.Frag} {mg : Str → Option Value} {base : Heap}
/-- the same at every depth, at most n lists or tuples deep; a dict beside itself -/
inductive Sm (G : Hp) : Nat → V → V → Prop where
  | non (n : Nat) : Sm G n .non .non
  | bl (n : Nat) (b : Bool) : Sm G n (.bl b) (.bl b)
  | int (n : Nat) (i : Int) : Sm G n (.int i) (.int i)
  | str (n : Nat) (z : Str) : Sm G n (.str z) (.str z)
  | lst {n : Nat} {a b : Addr} {xs ys : List V} (h1 : G a = some (.lst xs)) (h2 : G b = some (.lst ys)) (hl : xs.length = ys.length) (hz : xs.length ≤ 1000) (r : ∀ (i : Nat) x y, xs[i]? = some x → ys[i]? = some y → Sm G n x y) : Sm G (n + 1) (.ref a) (.ref b)
  | tup {n : Nat} {a b : Addr} {xs ys : List V} (h1 : G a = some (.tup xs)) (h2 : G b = some (.tup ys)) (hl : xs.length = ys.length) (hz : xs.length ≤ 1000) (r : ∀ (i : Nat) x y, xs[i]? = some x → ys[i]? = some y → Sm G n x y) : Sm G (n + 1) (.ref a) (.ref b)
  | dct (n : Nat) {a : Addr} {kvs : List (Key × V)} (h : G a = some (.dK kvs)) (nd : (kvs.map (·.1)).Nodup) (f : ∀ p ∈ kvs, flatR p.2) : Sm G n (.ref a) (.ref a)
theorem Sm.mono {G G' : Hp} (k : ∀ b o, G b = some o → G' b = some o) {n : Nat} {x y : V} (h : Sm G n x y) : Sm G' n x y := by
  induction h with
  | non n => exact .non n
  | bl n b => exact .bl n b
  | int n i => exact .int n i
  | str n z => exact .str n z
  | lst h1 h2 hl hz r ih => exact .lst (k _ _ h1) (k _ _ h2) hl hz ih
  | tup h1 h2 hl hz r ih => exact .tup (k _ _ h1) (k _ _ h2) hl hz ih
  | dct n h nd f => exact .dct n (k _ _ h) nd f
theorem Sm.kp {H H' : Hp} (k : Kp [] H H') {n : Nat} {x y : V} (h : Sm H n x y) : Sm H' n x y := h.mono fun b o e => k.get List.not_mem_nil e
def rEqOr : R2 := fun x y H Q => rEq x y H Q ∨ rEqSelf x y H Q
theorem op_eqOr {X : Cx} (hu : X.A.units < cLine) : OpR X (compareOp .Eq) rEqOr := fun pins s σ H x y v u Q I rx ry h => h.elim (op_eq pins s σ H x y v u Q I rx ry) (op_eqSelf hu pins s σ H x y v u Q I rx ry)
theorem eqOrS {x y : V} {H : Hp} {Q : VK} (s : scal x y = true) (h : Q (.bl (decide (x = y))) H) : rEqOr x y H Q := .inl ⟨s, h⟩
local macro_rules | `(tactic| walk_at "ask") => `(tactic| ((with_reducible refine' eqOrS ?vh ?_); (case vh => exact rfl)))
theorem dK_ty {H0 H : Hp} {l : Led} {a : Addr} {kvs : List (Key × V)} (s : Stt H0 [] l H) (h : H0 a = some (.dK kvs)) : TyX K H (.ref a) (.type "dict") := .base (.dK (s.keep.get List.not_mem_nil h))
local macro_rules | `(tactic| walk_at "ty") => `(tactic| exact dK_ty (by assumption) (by assumption))
def spSame (n : Nat) : Sp := fun vs H Q _ => ∃ x y : V, vs = [x, y] ∧ Sm H n x y ∧ ∀ H', Kp [] H H' → Q (.bl true) H'
theorem same_body (T : Txt K mg) (n k : Nat) (hk : k ≤ 60) (sp0 : Sp) (F0 : FnOk P w K mg base CX0 k (He.fAd K ("_law_same", none)) T.fd_l_same ["_law_found", "_law_due"] sp0)
    (h0 : ∀ x y H Q E, (∃ m, m + 1 = n ∧ Sm H m x y ∧ ∀ H', Kp [] H H' → Q (.bl true) H') → sp0 [x, y] H Q E) : FnOk P w K mg base CX0 (k + 1) (He.fAd K ("_law_same", none)) T.fd_l_same ["_law_found", "_law_due"] (spSame n) := by
  refine T.F_l_same.ok sc_l_same (fun vs H Q E h => ?_) (fun cdv A outer s H vs Q E hr h => ?_)
  · obtain ⟨x, y, rfl, _⟩ := h
    rfl
  · obtain ⟨x, y, rfl, hx, q⟩ := h
    refine ⟨_, PSs.nox (pss_cons (ps_if (pt_val (pe_callB call_isiT (by rfl) T.n_isinstance (by decide +kernel) (pa_cons (pv 1) (pa_cons (pe_tup (pa_cons (pe_bltn (v := .ty "list") (by rfl) T.n_list (by decide +kernel) (show RelV (.ty "list") (.type "list") from rfl)) (pa_cons (pe_bltn (v := .ty "tuple") (by rfl) T.n_tuple (by decide +kernel) (show RelV (.ty "tuple") (.type "tuple") from rfl)) pa_nil))) pa_nil)))) (pss_cons (ps_if (PW.pt (pw_or (pt_cmpR op_ne (pe_callB call_isi (by rfl) T.n_isinstance (by decide +kernel) (pa_cons (pv 0) (pa_cons (pe_bltn (v := .ty "list") (by rfl) T.n_list (by decide +kernel) (show RelV (.ty "list") (.type "list") from rfl)) pa_nil))) (pe_callB call_isi (by rfl) T.n_isinstance (by decide +kernel) (pa_cons (pv 1) (pa_cons (pe_bltn (v := .ty "list") (by rfl) T.n_list (by decide +kernel) (show RelV (.ty "list") (.type "list") from rfl)) pa_nil))) (nomark _)) (pw_or1 (pt_cmpR op_ne (pe_callB call_isi (by rfl) T.n_isinstance (by decide +kernel) (pa_cons (pv 0) (pa_cons (pe_bltn (v := .ty "tuple") (by rfl) T.n_tuple (by decide +kernel) (show RelV (.ty "tuple") (.type "tuple") from rfl)) pa_nil))) (pe_callB call_isi (by rfl) T.n_isinstance (by decide +kernel) (pa_cons (pv 1) (pa_cons (pe_bltn (v := .ty "tuple") (by rfl) T.n_tuple (by decide +kernel) (show RelV (.ty "tuple") (.type "tuple") from rfl)) pa_nil))) (nomark _))))) (pss_one (ps_ret pe_bl))
   pss_nil)
  (pss_one (ps_ret (pe_and (pe_cmpR op_eq (pe_callB call_lenQ (by rfl) T.n_len PySem.boot_len (pa_cons (pv 0) pa_nil)) (pe_callB call_lenQ (by rfl) T.n_len PySem.boot_len (pa_cons (pv 1) pa_nil)) (nomark _)) (pe_one (pe_callB (cr_all rfl) (by rfl) T.n_all (by decide +kernel) (pa_cons (pe_lc (own := [("_law_a", 2), ("_law_b", 3)]) (g := gTup K 2 (gCons (gName 2) (gCons (gName 3) (gNil)))) (tt := tYes) (by rfl) sc_l_same.nd (RZ.pi_zipA (by rfl) T.n_zip (pa_cons (pv 0) (pa_cons (pv 1) pa_nil))) (blkOk_by (own := [("_law_a", 2), ("_law_b", 3)]) (N := ["_law_found", "_law_due", "_law_a", "_law_b"]) (sc := defScope s_l_same) (by decide +kernel)) (fun _ _ _ _ _ => (pg_tup (by rfl) (pgs_cons (pg_name (i := 2) sc_l_same.nd rfl (by first | exact Or.inl rfl | exact Or.inr rfl)) (pgs_cons (pg_name (i := 3) sc_l_same.nd rfl (by first | exact Or.inl rfl | exact Or.inr rfl)) pgs_nil)))) (fun _ _ _ _ _ => pts_nil) (fun _ _ _ _ _ => (pe_call F0 hr rfl T.g_l_same T.F_l_same.kp T.b_l_same .nil pass0 (pa_cons (pv 2) (pa_cons (pv 3) pa_nil))))) pa_nil)))))))
   pss_nil)
  (pss_cons (ps_if (pt_val (pe_callB call_isi (by rfl) T.n_isinstance (by decide +kernel) (pa_cons (pv 1) (pa_cons (pe_bltn (v := .ty "int") (by rfl) T.n_int (by decide +kernel) (show RelV (.ty "int") (.type "int") from rfl)) pa_nil)))) (pss_one (ps_ret (pe_and (pe_callB call_isi (by rfl) T.n_isinstance (by decide +kernel) (pa_cons (pv 0) (pa_cons (pe_bltn (v := .ty "int") (by rfl) T.n_int (by decide +kernel) (show RelV (.ty "int") (.type "int") from rfl)) pa_nil))) (pe_and (pe_cmpR op_eq (pe_callB call_isi (by rfl) T.n_isinstance (by decide +kernel) (pa_cons (pv 0) (pa_cons (pe_bltn (v := .ty "bool") (by rfl) T.n_bool (by decide +kernel) (show RelV (.ty "bool") (.type "bool") from rfl)) pa_nil))) (pe_callB call_isi (by rfl) T.n_isinstance (by decide +kernel) (pa_cons (pv 1) (pa_cons (pe_bltn (v := .ty "bool") (by rfl) T.n_bool (by decide +kernel) (show RelV (.ty "bool") (.type "bool") from rfl)) pa_nil))) (nomark _)) (pe_one (pe_cmpR (op_eqOr (Nat.lt_of_le_of_lt (Nat.le_add_right _ _) hr.units)) (pv 0) (pv 1) (nomark _)))))))
   pss_nil)
  (pss_one (ps_ret (pe_and (pe_cmpR op_isBl (pe_callB call_isiT (by rfl) T.n_isinstance (by decide +kernel) (pa_cons (pv 0) (pa_cons (pe_tup (pa_cons (pe_bltn (v := .ty "bool") (by rfl) T.n_bool (by decide +kernel) (show RelV (.ty "bool") (.type "bool") from rfl)) (pa_cons (pe_bltn (v := .ty "int") (by rfl) T.n_int (by decide +kernel) (show RelV (.ty "int") (.type "int") from rfl)) (pa_cons (pe_bltn (v := .ty "list") (by rfl) T.n_list (by decide +kernel) (show RelV (.ty "list") (.type "list") from rfl)) (pa_cons (pe_bltn (v := .ty "tuple") (by rfl) T.n_tuple (by decide +kernel) (show RelV (.ty "tuple") (.type "tuple") from rfl)) pa_nil))))) pa_nil))) pe_bl (nomark _)) (pe_one (pe_cmpR (op_eqOr (Nat.lt_of_le_of_lt (Nat.le_add_right _ _) hr.units)) (pv 0) (pv 1) (nomark _)))))))), ?_⟩
    walk_at "k"
    have s0 : Stt H [] [] H := Stt.nil
    have e1 : ∀ v : V, decide (v = v) = true := fun v => decide_eq_true rfl
    cases hx with
    | non =>
      walk_at "rd"
      rename_i s1
      rw [e1]
      exact q _ s1.keep
    | bl _ b =>
      walk_at "rd"
      rename_i s1
      rw [e1]
      exact q _ s1.keep
    | int _ i =>
      walk_at "rd"
      rename_i s1
      rw [e1]
      exact q _ s1.keep
    | str _ z =>
      walk_at "rd"
      rename_i s1
      rw [e1]
      exact q _ s1.keep
    | @lst m a b xs ys h1 h2 hlen hz r =>
      have hx : SqL K H a xs := SqL.of h1
      have hy : SqL K H b ys := SqL.of h2
      walk_at "rd"
      refine Rd.brI (by rw [hlen]) ?_
      walk_at "rd"
      rename_i p0 _ _ s1
      refine Rd.zL (s1.upL hx) (s1.upL hy) ?_
      refine Rd.lcG (walk_zip rfl) s1 (fun i acc ex => ex = [] ∧ acc = List.replicate i (.bl true)) ⟨rfl, rfl⟩ (fun H' D acc ex _ q => ⟨q.upL hx, q.upL hy⟩) ?_ ?_
      · rintro D hD i x HA HB acc ex hi ⟨rfl, rfl⟩ hac s2 ⟨p, x1, y1, rfl, hp, rfl, e2, e3⟩
        have s3 := s2.new hp (.tup [x1, y1])
        walk_at "rd"
        refine h0 x1 y1 _ _ _ ⟨m, rfl, (r i x1 y1 e2 e3).kp s3.keep, fun H5 k5 => ?_⟩
        have s5 := (s3.after0 k5).sub (List.Sublist.cons _ (List.Sublist.refl _))
        exact Rd.lcE s5 hD (by omega) hac ⟨rfl, by rw [List.replicate_succ']⟩
      · rintro D HA acc ex hD ⟨rfl, rfl⟩ s2
        have s3 : Stt H [] ((D, Is (.lst ((List.replicate (min xs.length ys.length) true).map V.bl))) :: ([] ++ [(p0, Is (.tup [V.ty "list", V.ty "tuple"]))])) HA := by
          rw [List.map_replicate]
          exact s2
        walk_at "rd"
        refine Rd.allL s3 (by walk_at "mem") ?_
        walk_at "rd"
        have e3 : (List.replicate (min xs.length ys.length) true).all id = true := by simp
        rw [e3]
        exact q _ s3.keep
    | @tup m a b xs ys h1 h2 hlen hz r =>
      have hx : SqT K H a xs := SqT.of h1
      have hy : SqT K H b ys := SqT.of h2
      walk_at "rd"
      refine Rd.brI (by rw [hlen]) ?_
      walk_at "rd"
      rename_i p0 _ _ s1
      refine Rd.zT (s1.upT hx) (s1.upT hy) ?_
      refine Rd.lcG (walk_zipT rfl) s1 (fun i acc ex => ex = [] ∧ acc = List.replicate i (.bl true)) ⟨rfl, rfl⟩ (fun H' D acc ex _ q => ⟨q.upT hx, q.upT hy⟩) ?_ ?_
      · rintro D hD i x HA HB acc ex hi ⟨rfl, rfl⟩ hac s2 ⟨p, x1, y1, rfl, hp, rfl, e2, e3⟩
        have s3 := s2.new hp (.tup [x1, y1])
        walk_at "rd"
        refine h0 x1 y1 _ _ _ ⟨m, rfl, (r i x1 y1 e2 e3).kp s3.keep, fun H5 k5 => ?_⟩
        have s5 := (s3.after0 k5).sub (List.Sublist.cons _ (List.Sublist.refl _))
        exact Rd.lcE s5 hD (by omega) hac ⟨rfl, by rw [List.replicate_succ']⟩
      · rintro D HA acc ex hD ⟨rfl, rfl⟩ s2
        have s3 : Stt H [] ((D, Is (.lst ((List.replicate (min xs.length ys.length) true).map V.bl))) :: ([] ++ [(p0, Is (.tup [V.ty "list", V.ty "tuple"]))])) HA := by
          rw [List.map_replicate]
          exact s2
        walk_at "rd"
        refine Rd.allL s3 (by walk_at "mem") ?_
        walk_at "rd"
        have e3 : (List.replicate (min xs.length ys.length) true).all id = true := by simp
        rw [e3]
        exact q _ s3.keep
    | @dct _ a kvs h nd f =>
      walk_at "rd"
      rename_i s1
      refine .inr ⟨a, kvs, rfl, rfl, s1.keep.get List.not_mem_nil h, nd, f, ?_⟩
      exact q _ s1.keep
theorem ok_l_same (T : Txt K mg) : ∀ n, n ≤ 60 → FnOk P w K mg base CX0 (n + 1) (He.fAd K ("_law_same", none)) T.fd_l_same ["_law_found", "_law_due"] (spSame n)
  | 0, _ => same_body T 0 0 (by omega) _ fnok_false fun x y H Q E ⟨m, h, _⟩ => by omega
  | n + 1, hn => same_body T (n + 1) (n + 1) hn _ (ok_l_same T n (by omega)) fun x y H Q E ⟨m, h1, h2, h3⟩ => by
    cases h1
    exact ⟨x, y, rfl, h2, h3⟩
end

end
section
local macro_rules | `(tactic| walk_at "subl") => `(tactic| first | with_reducible exact List.nil_sublist _ | with_reducible exact List.Sublist.refl _ | (with_reducible refine List.Sublist.cons₂ _ ?_; walk_at "subl") | (with_reducible refine List.Sublist.cons _ ?_; walk_at "subl"))
local macro_rules | `(tactic| walk_at "k") => `(tactic| try dsimp only [L2.cxOf, L2.Cx.nox, L2.Cx.wish, L2.Cx.blk])
local macro_rules | `(tactic| walk_at "ask") => `(tactic| fail)
local macro_rules | `(tactic| walk_at "mem") => `(tactic| first | with_reducible exact List.mem_cons_self | (with_reducible apply List.mem_cons_of_mem; walk_at "mem"))
local macro_rules | `(tactic| walk_at "put") => `(tactic| first | with_reducible exact Lt.Put.head | (with_reducible apply Lt.Put.tail; walk_at "put"))
local macro_rules | `(tactic| walk_at "own") => `(tactic| first | exact Or.inr (by assumption) | exact Or.inl (by walk_at "mem"))
local macro_rules | `(tactic| walk_at "cnd") => `(tactic| first | assumption | decide | ((try dsimp only); omega) | (unfold CMul; omega) | (unfold CDiv; omega) | (unfold CPow; omega) | exact Or.inr (by decide) | exact Or.inl (by decide) | exact wide_div (b := 128) (by omega) (by omega) (by decide) (by decide))
local macro_rules | `(tactic| walk_at "at") => `(tactic| first | exact rfl | assumption)
local macro_rules | `(tactic| walk_at "kit") => `(tactic| first | assumption | exact kit_int_int | exact kit_int_bool | exact kit_int_str | exact kit_int_list | exact kit_int_tuple | exact kit_int_dict | exact kit_bool_int | exact kit_bool_bool | exact kit_bool_str | exact kit_bool_list | exact kit_bool_tuple | exact kit_bool_dict | exact kit_str_int | exact kit_str_bool | exact kit_str_str | exact kit_str_list | exact kit_str_tuple | exact kit_str_dict | exact kit_list_int | exact kit_list_bool | exact kit_list_str | exact kit_list_list | exact kit_list_tuple | exact kit_list_dict | exact kit_tuple_int | exact kit_tuple_bool | exact kit_tuple_str | exact kit_tuple_list | exact kit_tuple_tuple | exact kit_tuple_dict | exact kit_dict_int | exact kit_dict_bool | exact kit_dict_str | exact kit_dict_list | exact kit_dict_tuple | exact kit_dict_dict | exact kit_NoneType_int | exact kit_NoneType_bool | exact kit_NoneType_str | exact kit_NoneType_list | exact kit_NoneType_tuple | exact kit_NoneType_dict)
local macro_rules | `(tactic| walk_at "kitA") => `(tactic| first | assumption | exact kitA_lt_int | exact kitA_lt_bool | exact kitA_lt_str | exact kitA_lt_list | exact kitA_lt_tuple | exact kitA_lt_dict | exact kitA_lt_NoneType | exact kitA_bilt_int | exact kitA_bilt_bool | exact kitA_bilt_str | exact kitA_bilt_list | exact kitA_bilt_tuple | exact kitA_bilt_dict | exact kitA_bilt_NoneType)
local macro_rules | `(tactic| walk_at "ty") => `(tactic| first | exact .base (.int _) | exact .base (.bl _) | exact .base (.str _) | exact .base .non | exact .base (.lst (Stt.get (by assumption) (by walk_at "mem"))) | exact .base (.tup (Stt.get (by assumption) (by walk_at "mem"))) | exact .base (.dK (Stt.get (by assumption) (by walk_at "mem"))) | exact sqL_ty (Stt.upL (by assumption) (by assumption)) | exact sqT_ty (Stt.upT (by assumption) (by assumption)) | exact InsT.ty (by assumption) (Stt.get (by assumption) (by walk_at "mem")) | assumption)
local macro_rules | `(tactic| walk_at "rd1") => `(tactic| first
  | with_reducible refine' Rd.seq ?_
  | with_reducible refine' Rd.asg ?_
  | ((with_reducible refine' Rd.var ?vh ?_); (case vh => exact rfl))
  | with_reducible refine' Rd.con ?_
  | with_reducible refine' Rd.op ?_
  | with_reducible refine' Rd.i0 ?_
  | ((with_reducible refine' Rd.ic ?vh ?_); (case vh => walk_at "cnd"))
  | ((with_reducible refine' Rd.ixL ?v1 ?v2 ?v3 ?_); (case v1 => assumption); (case v2 => walk_at "mem"); (case v3 => walk_at "at"))
  | ((with_reducible refine' Rd.ixT ?v1 ?v2 ?v3 ?_); (case v1 => assumption); (case v2 => walk_at "mem"); (case v3 => walk_at "at"))
  | ((with_reducible refine' Rd.ixD2 ?v1 ?v2 ?_); (case v1 => assumption); (case v2 => walk_at "mem"); intro _)
  | ((with_reducible refine' Rd.ixD3 ?v1 ?v2 ?_); (case v1 => assumption); (case v2 => walk_at "mem"); intro _)
  | ((with_reducible refine' Rd.setD2 ?v1 ?v2 ?v3 ?v4 ?_); (case v1 => assumption); (case v2 => walk_at "mem"); (case v3 => walk_at "put"); (case v4 => walk_at "own"); intro _ _)
  | ((with_reducible refine' Rd.isi ?v1 ?v2 ?v3 ?_); (case v1 => walk_at "ty"); (case v2 => first | exact ClsV.ty _ | exact ClsV.own _); (case v3 => walk_at "kit"))
  | with_reducible refine' Rd.fld ?_
  | ((with_reducible refine' Rd.fldI ?v1 ?v2 ?v3 ?v4 ?v5 ?_); (case v1 => assumption); (case v2 => walk_at "mem"); (case v3 => assumption); (case v4 => assumption); (case v5 => walk_at "at"))
  | with_reducible refine' Rd.sfld ?_
  | ((with_reducible refine' Rd.sfldI ?v1 ?v2 ?v3 ?v4 ?v5 ?v6 ?v7 ?_); (case v1 => assumption); (case v2 => walk_at "mem"); (case v3 => assumption); (case v4 => assumption); (case v5 => first | decide | (refine Nat.lt_of_le_of_lt (putF_len _ _ _) ?_; decide)); (case v6 => walk_at "put"); (case v7 => walk_at "own"); intro _ _)
  | with_reducible refine' Rd.make ?_
  | with_reducible refine' Rd.gcd ?_
  | with_reducible refine' Rd.cons ?_
  | with_reducible refine' Rd.nil ?_
  | with_reducible refine' Rd.cb ?_
  | with_reducible refine' Rd.intI ?_
  | with_reducible refine' Rd.absI ?_
  | ((with_reducible refine' Rd.lenL ?v1 ?v2 ?_); (case v1 => assumption); (case v2 => walk_at "mem"))
  | ((with_reducible refine' Rd.lenT ?v1 ?v2 ?_); (case v1 => assumption); (case v2 => walk_at "mem"))
  | ((with_reducible refine' Rd.lenBL ?v1 ?v2 ?v3 ?_); (case v1 => assumption); (case v2 => assumption); (case v3 => first | exact List.not_mem_nil | assumption))
  | ((with_reducible refine' Rd.lenBT ?v1 ?v2 ?v3 ?_); (case v1 => assumption); (case v2 => assumption); (case v3 => first | exact List.not_mem_nil | assumption))
  | ((with_reducible refine' Rd.ixBL ?v1 ?v2 ?v4 ?v3 ?_); (case v1 => assumption); (case v2 => assumption); (case v4 => first | exact List.not_mem_nil | assumption); (case v3 => walk_at "at"))
  | ((with_reducible refine' Rd.ixBT ?v1 ?v2 ?v4 ?v3 ?_); (case v1 => assumption); (case v2 => assumption); (case v4 => first | exact List.not_mem_nil | assumption); (case v3 => walk_at "at"))
  | ((with_reducible refine' Rd.brI ?vh ?_); (case vh => with_reducible exact rfl))
  | with_reducible refine' Rd.ifS ?_
  | with_reducible refine' Rd.test ?_
  | with_reducible refine' Rd.tbl ?_
  | with_reducible refine' Rd.bl ?_
  | with_reducible refine' Rd.brTT ?_
  | with_reducible refine' Rd.brFF ?_
  | with_reducible refine' Rd.brN ?_
  | ((with_reducible refine' Rd.aug ?vh ?_); (case vh => exact rfl))
  | with_reducible refine' Rd.ipI ?_
  | with_reducible refine' Rd.blV ?_
  | with_reducible refine' Rd.notVL ?_
  | with_reducible refine' Rd.andT ?_
  | with_reducible refine' Rd.orT ?_
  | with_reducible refine' Rd.notT ?_
  | with_reducible refine' Rd.andV ?_
  | with_reducible refine' Rd.orV ?_
  | with_reducible refine' Rd.notV ?_
  | with_reducible refine' Rd.ifE ?_
  | ((with_reducible refine' Rd.eqS ?vh ?_); (case vh => exact rfl))
  | ((with_reducible refine' Rd.neS ?vh ?_); (case vh => exact rfl))
  | with_reducible refine' Rd.par ?_
  | with_reducible refine' Rd.parL ?_
  | with_reducible refine' Rd.un ?_
  | with_reducible refine' Rd.u1 ?_
  | with_reducible refine' Rd.sub ?_
  | ((with_reducible refine' Rd.setL ?v1 ?v2 ?v3 ?v4 ?v5 ?_); (case v1 => assumption); (case v2 => walk_at "mem"); (case v3 => walk_at "at"); (case v4 => walk_at "put"); (case v5 => walk_at "own"); intro _ _)
  | with_reducible refine' Rd.tup ?_
  | with_reducible refine' Rd.lst ?_
  | ((with_reducible refine' Rd.tupN ?v1 ?v2 ?_); (case v1 => assumption); (case v2 => simp only [List.length_cons, List.length_nil]; decide); intro _ _ _ _)
  | ((with_reducible refine' Rd.lstN ?v1 ?v2 ?_); (case v1 => assumption); (case v2 => simp only [List.length_cons, List.length_nil]; decide); intro _ _ _ _)
  | with_reducible refine' Rd.ret ?_
  | with_reducible refine' Rd.drop ?_
  | with_reducible refine' Rd.retN ?_
  | with_reducible refine' Rd.next ?_
  | with_reducible refine' Rd.brk ?_
  | with_reducible refine' Rd.cont ?_
  | with_reducible refine' Rd.call ?_
  | walk_at "ask"
  | with_reducible refine' Rd.bm ?_
  | ((with_reducible refine' Rd.bmL ?v1 ?v2 ?_); (case v1 => assumption); (case v2 => walk_at "mem"))
  | ((with_reducible refine' Rd.app ?v1 ?v2 ?v3 ?v4 ?v5 ?_); (case v1 => assumption); (case v2 => walk_at "mem"); (case v3 => simp only [List.length_cons, List.length_nil, List.length_append]; omega); (case v4 => walk_at "put"); (case v5 => walk_at "own"); intro _ _)
  | with_reducible refine' Rd.asgT ?_
  | ((with_reducible refine' Rd.gtup ?v1 ?v2 ?v3 ?_); (case v1 => assumption); (case v2 => walk_at "mem"); (case v3 => exact rfl))
  | with_reducible refine' Rd.gcons ?_
  | with_reducible refine' Rd.gname ?_
  | with_reducible refine' Rd.gnil ?_
  | with_reducible refine' Rd.sl ?_
  | with_reducible refine' Rd.noPart ?_
  | with_reducible refine' Rd.part ?_
  | with_reducible refine' Rd.prt ?_
  | with_reducible refine' Rd.isB ?_
  | ((with_reducible refine' Rd.wp ?vh ?_); (case vh => exact rfl))
  | with_reducible refine' Rd.makeK ?_
  | with_reducible refine' Rd.meth ?_
  | ((with_reducible refine' Rd.catL ?v1 ?v2 ?v3 ?v4 ?_); (case v1 => assumption); (case v2 => walk_at "mem"); (case v3 => walk_at "mem"); (case v4 => simp only [List.length_cons, List.length_nil, List.length_append]; omega); intro _ _ _ _)
  | with_reducible refine' Rd.dnew ?_
  | ((with_reducible refine' Rd.dnewL ?v1 ?_); (case v1 => assumption); intro _ _ _ _)
  | with_reducible refine' Rd.lc ?_
  | with_reducible refine' Rd.wZ ?_
  | with_reducible refine' Rd.tYesH ?_
  | with_reducible refine' Rd.fmt ?_
  | with_reducible refine' Rd.joined ?_
  | with_reducible refine' Rd.jsNil ?_
  | with_reducible refine' Rd.jsCons ?_
  | ((with_reducible refine' Rd.isiT ?v1 ?v2 ?v3 ?v4 ?v5 ?_); (case v1 => assumption); (case v2 => walk_at "mem"); (case v3 => walk_at "ty"); (case v4 => first | exact .cons (.ty _) (.cons (.ty _) .nil) | exact .cons (.ty _) (.cons (.ty _) (.cons (.ty _) (.cons (.ty _) .nil))) | exact .cons (.ty _) (.cons (.ty _) (.cons (.ty _) .nil))); (case v5 => walk_at "kitA"))
  | with_reducible refine' Rd.forS ?_
  | with_reducible refine' Rd.wEnT ?_
  | ((with_reducible refine' Rd.wEnTL ?v1 ?v2 ?_); (case v1 => assumption); (case v2 => walk_at "mem"))
  | with_reducible refine' Rd.wL ?_
  | ((with_reducible refine' Rd.wLL ?v1 ?v2 ?_); (case v1 => assumption); (case v2 => walk_at "mem"))
  | with_reducible refine' Rd.wT ?_
  | ((with_reducible refine' Rd.wTL ?v1 ?v2 ?_); (case v1 => assumption); (case v2 => walk_at "mem"))
  | with_reducible refine' Rd.wR1 ?_
  | ((with_reducible refine' Rd.wR1L ?v1 ?v2 ?_); (case v1 => omega); (case v2 => omega))
  | with_reducible refine' Rd.wR2 ?_
  | ((with_reducible refine' Rd.wR2L ?v1 ?_); (case v1 => omega)))
local macro_rules | `(tactic| walk_at "rd") => `(tactic| repeat (walk_at "rd1"))

local macro_rules | `(tactic| walk_at "ask") => `(tactic| ((with_reducible refine' fill_ask ?v1 ?v2 ?v3 ?v4 ?v5 ?_); (case v1 => assumption); (case v2 => walk_at "mem"); (case v3 => walk_at "mem"); (case v4 => assumption); (case v5 => walk_at "own"); intro _ _))

local macro_rules | `(tactic| walk_at "ask") => `(tactic| ((with_reducible refine' take_ask ?v1 ?v2 ?v3 ?v4 ?v5 ?v6 ?_); (case v1 => assumption); (case v2 => walk_at "mem"); (case v3 => walk_at "mem"); (case v4 => assumption); (case v5 => walk_at "own"); (case v6 => first | decide | omega); intro _ _ _ _))
local macro_rules | `(tactic| walk_at "ask") => `(tactic| ((with_reducible refine' one_ask ?v1 ?v2 ?v3 ?v4 ?v5 ?_); (case v1 => assumption); (case v2 => walk_at "subl"); (case v3 => assumption); (case v4 => walk_at "own"); (case v5 => simp only [List.length_append, List.length_cons, List.length_nil]; decide); intro _ _ _ _))
local macro_rules | `(tactic| walk_at "ask") => `(tactic| ((with_reducible refine' fig_ask ?v1 ?v2 ?v3 ?v4 ?_); (case v1 => assumption); (case v2 => walk_at "subl"); (case v3 => assumption); (case v4 => walk_at "own"); intro _ _ _ _))
local macro_rules | `(tactic| walk_at "ask") => `(tactic| ((with_reducible refine' low_ask ?v1 ?v2 ?v3 ?v4 ?_); (case v1 => assumption); (case v2 => first | assumption | omega); (case v3 => omega); (case v4 => omega); intro _ _ _ _))
local macro_rules | `(tactic| walk_at "ask") => `(tactic| ((with_reducible refine' frac_ask ?v1 ?v2 ?v3 ?v4 ?_); (case v1 => assumption); (case v2 => walk_at "subl"); (case v3 => assumption); (case v4 => walk_at "own"); intro _ _ _ _ _ _ _))

local macro_rules | `(tactic| walk_at "ask") => `(tactic| with_reducible refine' isI_int ?_)
local macro_rules | `(tactic| walk_at "ask") => `(tactic| ((with_reducible refine' mk_span ?v1 ?v2 ?v3 ?_); (case v1 => assumption); (case v2 => first | assumption | omega); (case v3 => first | assumption | omega); intro _ _ _ _))
local macro_rules | `(tactic| walk_at "ask") => `(tactic| ((with_reducible refine' mk_span1 ?v1 ?_); (case v1 => assumption); intro _ _ _ _))
local macro_rules | `(tactic| walk_at "ask") => `(tactic| ((with_reducible refine' fld_over ?v1 ?v2 ?v3 ?v4 ?_); (case v1 => assumption); (case v2 => assumption); (case v3 => assumption); (case v4 => walk_at "mem")))
local macro_rules | `(tactic| walk_at "ask") => `(tactic| ((with_reducible refine' fld_under ?v1 ?v2 ?v3 ?v4 ?_); (case v1 => assumption); (case v2 => assumption); (case v3 => assumption); (case v4 => walk_at "mem")))
local macro_rules | `(tactic| walk_at "ty") => `(tactic| exact span_ty (by assumption) (by assumption) (by walk_at "mem"))

section
variable {P : Program} {w : World} {K : PySem.W.Frag} {mg : Str → Option Value} {base : Heap}
/-! ### nought, and a Span or a list as a part, are refused -/
theorem stt_ntS {H H1 : Hp} {l : Led} (s : Stt H [] l H1) : Stt (nt H) [] l H1 := ⟨fun b o e => s.keep b o (nt_to e).1, s.nd, s.at_⟩
theorem nt_num {H : Hp} {v : V} {a b : Int} (h : IsNum K H v a b) : IsNum K (nt H) v a b := by
  rcases h with h | ⟨p, o, e, h1, dx, rfl⟩
  · exact .inl h
  · exact .inr ⟨p, _, e, nt_of h1 (fun ps q => by cases q), dx, rfl⟩
theorem ix_K {X : Cx} {r : PySem.W.Frag → R2} (hK : X.K = K) (h : IxR X (r X.K)) : IxR X (r K) := by
  rw [← hK]
  exact h
def spRefd (K : PySem.W.Frag) : Sp := fun vs H Q _ => ∃ (a : Addr) (i j : Int), vs = [.ref a] ∧ IsNum K (nt H) (.ref a) i j ∧ LamX.Tabs (TL K) H ∧ ∀ H', Stt (nt H) [] [] H' → LamX.Tabs (TL K) H' → Q (.bl true) H'
theorem StT.kp {Hb H H' : Hp} {l : Led} (s : StT K Hb l H) (k : Kp [] H H') : StT K Hb l H' := ⟨s.s.after0 k, tabs_kp s.tb k, s.nl⟩
theorem StT.sub {Hb H : Hp} {l l' : Led} (s : StT K Hb l H) (z : List.Sublist l' l) : StT K Hb l' H := ⟨s.s.sub z, s.tb, fun e m => s.nl e (z.subset m)⟩
theorem nt_kp {Hb H H' : Hp} {l : Led} (s : StT K Hb l H) (nT : NoT Hb) : Kp [] Hb (nt H) := fun b o e => .inl (nt_of (s.s.keep.get List.not_mem_nil e) fun ps q => nT b ps (q ▸ e))
/-- a new base in between -/
theorem StT.reb {Hb H H' : Hp} {l l' : Led} (nT : NoT Hb) (s : StT K Hb l H) (s' : StT K (nt H) l' H') : StT K Hb l H' where
  s := { keep := (nt_kp s nT (H' := H')).trans s'.s.keep fun _ h => nomatch h
         nd := s.s.nd
         at_ := fun e m => by
          obtain ⟨o, ho, f⟩ := s.s.at_ e m
          exact ⟨o, s'.s.keep.get List.not_mem_nil (nt_of ho fun ps q => s.nl e m ps (q ▸ f)), f⟩ }
  tb := s'.tb
  nl := s.nl
theorem span_nt {a b : Int} : ∀ ps, ¬ SpanO K a b (.tbl ps) := fun ps ⟨dx, h⟩ => by cases h
/-- a nought -/
def Zr (K : PySem.W.Frag) (H : Hp) (z : V) (b : Bool) : Prop := (z = .int 0 ∧ b = false) ∨ ∃ r, z = .ref r ∧ b = true ∧ ∃ o, H r = some o ∧ SpanO K 0 1 o
theorem Zr.num {H : Hp} {z : V} {b : Bool} (h : Zr K H z b) : IsNum K H z 0 1 := by
  rcases h with ⟨rfl, _⟩ | ⟨r, rfl, _, o, h1, h2⟩
  · exact .int
  · exact .inr ⟨r, o, rfl, h1, h2⟩
theorem Zr.kp {H H' : Hp} {z : V} {b : Bool} (k : Kp [] H H') (h : Zr K H z b) : Zr K H' z b := by
  rcases h with h | ⟨r, rfl, hb, o, h1, h2⟩
  · exact .inl h
  · exact .inr ⟨r, rfl, hb, o, k.get List.not_mem_nil h1, h2⟩
theorem Zr.ty (T : Txt K mg) {H : Hp} {z : V} {b : Bool} (h : Zr K H z b) : ∃ t, TyX K H z t ∧ PySem.W.kitOne K t (.ref (He.ga K "Span")) = some b ∧ PySem.W.notFirst K (He.ga K "Span") t = true := by
  rcases h with ⟨rfl, rfl⟩ | ⟨r, rfl, rfl, o, h1, dx, rfl⟩
  · exact ⟨_, .base (.int 0), T.q_int_Span, T.nf_int⟩
  · exact ⟨_, T.i_Span.ty h1, T.q_Span_Span, T.nf_Span⟩
theorem refZ {Hb H : Hp} {l : Led} {x z : V} {b : Bool} {i j : Int} {Q' : VK} {E' : XK} (s : StT K Hb l H) (hx : IsNum K Hb x i j) (hz : Zr K Hb z b) (hE : ∀ cls d H', XP K z H cls d H' → E' cls d H') : spRefZ K [x, z] H Q' E' :=
  .inr ⟨x, z, i, j, 1, rfl, hx.kp0 s.s.keep, hz.num.kp0 s.s.keep, hE⟩
theorem ht_zL {Hb H : Hp} {l : Led} {C' : Addr} {sp : Sp} {E : XK} {a : Addr} {z : V} {b : Bool} {i j : Int} {σ : L2.St} {Q' : VK} (hC : C' = He.ga K "Span") (s : StT K Hb l H) (hA : IsNum K Hb (.ref a) i j) (hz : Zr K Hb z b) (e0 : σ[0]? = some (some (.ref a))) (e1 : σ[1]? = some (some z)) (h : sp [.ref a, z] H Q' E) :
    tOp (rBinL C' sp E) (tVar 0) (tVar 1) σ H Q' := by
  subst hC
  rcases hA.kp0 s.s.keep with ⟨e, _⟩ | ⟨p, o, e, h1, dx, rfl⟩
  · cases e
  · cases e
    refine ⟨_, e0, _, e1, a, dx, _, rfl, h1, ?_, h⟩
    rcases hz.kp s.s.keep with ⟨rfl, _⟩ | ⟨r, rfl, _, o, h2, dy, rfl⟩
    · exact .inl ⟨_, rfl⟩
    · exact .inr ⟨r, dy, _, rfl, h2⟩
theorem ht_zR {Hb H : Hp} {l : Led} {C' : Addr} {sp : Sp} {E : XK} {n : Int} {z : V} {σ : L2.St} {Q' : VK} (hC : C' = He.ga K "Span") (s : StT K Hb l H) (hz : Zr K Hb z true) (e1 : σ[1]? = some (some z)) (h : sp [.int n, z] H Q' E) :
    tOp (rBinR C' (swp sp) E) (tC (.int n)) (tVar 1) σ H Q' := by
  subst hC
  rcases hz.kp s.s.keep with ⟨_, e⟩ | ⟨r, rfl, _, o, h2, dy, rfl⟩
  · cases e
  · exact ⟨_, e1, n, r, dy, _, rfl, rfl, h2, _, _, rfl, h⟩
local macro_rules | `(tactic| walk_at "ask") => `(tactic| first
  | ((with_reducible refine' StT.lst ?v1 ?v2 ?_); (case v1 => assumption); (case v2 => simp only [List.length_cons, List.length_nil]; decide); intro _ _ _ _)
  | ((with_reducible refine' StT.bm ?v1 ?v2 ?_); (case v1 => assumption); (case v2 => walk_at "mem"))
  | ((with_reducible refine' StT.app ?v1 ?v2 ?v3 ?v4 ?v5 ?_); (case v1 => assumption); (case v2 => walk_at "mem"); (case v3 => simp only [List.length_cons, List.length_nil, List.length_append]; omega); (case v4 => walk_at "put"); (case v5 => assumption); intro _ _))
local macro_rules | `(tactic| walk_at "ht") => `(tactic| first
  | exact ht_zL rfl (by assumption) (by assumption) (by assumption) rfl rfl (Or.inr (refZ (by assumption) (by assumption) (by assumption) (by assumption)))
  | exact ht_zR rfl (by assumption) (by assumption) rfl (Or.inr (refZ (by assumption) IsNum.int (by assumption) (by assumption))))
local macro_rules | `(tactic| walk_at "ask") => `(tactic| ((with_reducible refine' lamP ?v0 ?v1 ?v2 ?_); (case v0 => assumption); (case v1 => assumption); (case v2 => intro _ _ _ _ _; walk_at "ht"); intro _ _ _ _))
/-- what is found: refused, all of them, the nought -/
def Fnd (z : V) (ts : List Addr) (H : Hp) : Prop := ts.length ≤ 4 ∧ ∀ t ∈ ts, H t = some (.tup [.str "part", z])
theorem Fnd.kp {z : V} {ts : List Addr} {H H' : Hp} (k : Kp [] H H') (f : Fnd z ts H) : Fnd z ts H' := ⟨f.1, fun t m => k.get List.not_mem_nil (f.2 t m)⟩
theorem Fnd.at_ {z : V} {ts : List Addr} {H : Hp} {i : Nat} {x : V} (f : Fnd z ts H) (e : (ts.map V.ref)[i]? = some x) : ∃ t, x = .ref t ∧ H t = some (.tup [.str "part", z]) := by
  obtain ⟨t, m, rfl⟩ := List.mem_map.mp (List.mem_of_getElem? e)
  exact ⟨t, rfl, f.2 t m⟩
theorem ixP {H : Hp} {t : Addr} {xs : List V} {i : Int} {v : V} {Q : VK} (h : H t = some (.tup xs)) (e : atI xs i = some v) (k : Q v H) : rIxT K (.ref t) (.int i) H Q := ⟨t, xs, i, v, rfl, rfl, SqT.of h, e, k⟩
theorem neZ (T : Txt K mg) {H : Hp} {z : V} {b : Bool} {Q : VK} (h : Zr K H z b) (k : Q (.bl false) H) : rNe z z H Q ∨ rNeI K (He.ga K "Span") (spEqS K) E0 z z H Q := by
  obtain ⟨t, ty, _, nf⟩ := h.ty T
  have n := h.num
  rcases h with ⟨rfl, _⟩ | ⟨r, rfl, _, o, h1, h2⟩
  · exact .inl ⟨rfl, by rw [decide_eq_true rfl]; exact k⟩
  · obtain ⟨dx, rfl⟩ := id h2
    exact .inr ⟨r, dx, _, t, rfl, h1, ty, nf, r, 0, 1, .ref r, true, rfl, ⟨_, h1, h2⟩, .inl ⟨0, 1, n, by decide⟩, true, rfl, k⟩
theorem noI_span (T : Txt K mg) {H : Hp} {a : Addr} {i j : Int} (h : IsNum K H (.ref a) i j) : ∃ sp, NoInt K H (.ref a) sp := by
  rcases h with ⟨e, _⟩ | ⟨p, o, e, h1, dx, rfl⟩
  · cases e
  · cases e
    exact ⟨_, _, _, _, T.i_Span.ty h1, T.q_Span_Span, T.q_Span_int, T.q_Span_bool, rfl⟩
theorem mk_refused {H : Hp} {x y v : V} {vs dvs : List V} {Q' : VK} {E' : XK} (e : vs ++ dvs = [x, y]) (h : ((∀ H', Kp [] H H' → ∃ sp, NoInt K H' x sp) ∧ v = x) ∨ (∃ n, x = .int n ∧ (∀ H', Kp [] H H' → ∃ sp, NoInt K H' y sp) ∧ v = y)) (hE : ∀ cls d H', XP K v H cls d H' → E' cls d H') : Rd.Make (He.ga K "Span") (spInitC K) dvs E' vs H Q' := by
  intro p dx hp hdx ne
  have hp' : upd H dx (HO.own p) p = none := by rw [upd_ne (Ne.symm ne)]; exact hp
  have k2 : Kp [] H (upd (upd H dx (.own p)) p (.ins (He.ga K "Span") dx [])) := (kp_new hdx).trans (kp_new hp') fun _ h => nomatch h
  refine .inr ⟨p, x, y, v, by rw [e], ?_, fun cls d H' z => hE _ _ _ (z.kp k2)⟩
  rcases h with ⟨h, rfl⟩ | ⟨n, rfl, h, rfl⟩
  · exact .inl ⟨h _ k2, rfl⟩
  · exact .inr ⟨n, rfl, .inl (h _ k2), rfl⟩
theorem rep3 {H0 H : Hp} {S : List Addr} {l : Led} {p : Addr} {v : V} {Q : VK} (st : Stt H0 S l H) (m : (p, Is (.lst [v])) ∈ l) (k : ∀ r H1, H0 r = none → Stt H0 S ((r, Is (.lst [v, v, v])) :: l) H1 → Q (.ref r) H1) : rRep (.ref p) (.int 3) H Q :=
  ⟨p, 3, [v], rfl, rfl, st.get m, by decide, by decide, by show 3 ≤ sizeLine; decide, fun r hr => k r _ (st.none hr) (st.new hr _)⟩
theorem neA (T : Txt K mg) {H : Hp} {a : Addr} {i j : Int} {Q : VK} (h : IsNum K H (.ref a) i j) (k : Q (.bl false) H) : rNeI K (He.ga K "Span") (spEqS K) E0 (.ref a) (.ref a) H Q := by
  have n := h
  rcases h with ⟨e, _⟩ | ⟨r, o, e, h1, h2⟩
  · cases e
  · cases e
    obtain ⟨dx, rfl⟩ := id h2
    exact ⟨a, dx, _, _, rfl, h1, T.i_Span.ty h1, T.nf_Span, a, i, j, .ref a, true, rfl, ⟨_, h1, h2⟩, .inl ⟨i, j, n, (decide_eq_true ⟨rfl, rfl⟩).symm⟩, true, rfl, k⟩
theorem neDr {H : Hp} {x y : V} {d e : PyData} {Q : VK} (h1 : Dp K H x d) (h2 : Dp K H y e) (s1 : SeqAt.shaped d = true) (s2 : SeqAt.shaped e = true) (h : Q (.bl (!PyData.eqv d e)) H) : rNeD K x y H Q := ⟨d, e, h1, h2, s1, s2, h⟩
theorem ok_l_is_refused (T : Txt K mg) (hT : ∀ p ∈ cts tf K, LamX.TabB base mg p.1 p.2) : FnOk P w K mg base CX0 11 (He.fAd K ("_law_is_refused", none)) T.fd_l_is_refused ["_law_a"] (spRefd K) := by
  refine okC (p := ("_law_is_refused", none)) T.F_l_is_refused sc_l_is_refused (fun vs H Q E h => ?_) (fun A outer s H vs Q E hr h => ?_)
  · obtain ⟨a, i, j, rfl, _⟩ := h
    rfl
  · obtain ⟨a, i, j, rfl, hA, tb, k⟩ := h
    refine ⟨_, PSs.nox (C8.pss_cut (ps_for PassesOwn.never rfl (pi_list (pe_lst (pa_cons pe_int (pa_cons (pe_makeX T.k_Span (ok_Span_init T) (hr.mono (by decide)) rfl T.g_Span T.b_Span_init1 pass0 (pa_cons pe_int pa_nil)) (pa_cons (pe_makeX T.k_Span (ok_Span_init T) (hr.mono (by decide)) rfl T.g_Span T.b_Span_init2 pass0 (pa_cons pe_int (pa_cons (pe_un un_neg pe_int) pa_nil))) pa_nil))))) (pg_name (i := 1) sc_l_is_refused.nd rfl (by first | exact Or.inl rfl | exact Or.inr rfl))
   (pss_cons (ps_asg (pe_lst (pa_cons (pe_tried (k := 8) T rfl (hT _ (List.mem_map.mpr ⟨("_law_is_refused", none), by decide, rfl⟩)) rfl (tl_mem (d := ("_law_is_refused", none)) (by decide)) (tl_uniq T (d := ("_law_is_refused", none)) (by decide)) hr (LamX.lamS_by (show LamX.lamSB (defScope s_l_is_refused) _ = true by decide +kernel)) rfl (fun _ _ _ _ _ => rfl) (fun A outer s H E f c' hr2 => (by exact pe_op (op_binL (bo_floordiv T) (ok_Span_floordivC T) T.b_Span_floordiv (hr2.mono (by decide)) (passes_call (takes_of rfl rfl rfl rfl) (fun _ _ _ _ h => h))) (pv 0) (pv 1)))) pa_nil)) (pg_name (i := 2) sc_l_is_refused.nd rfl (by first | exact Or.inl rfl | exact Or.inr rfl)))
  (pss_cons (ps_expr (pe_bm PySem.F.plainAttrs_list PySem.F.slot_list_append PySem.F.type_list_append mt_append (pv 2) (pa_cons (pe_tried (k := 8) T rfl (hT _ (List.mem_map.mpr ⟨("_law_is_refused", none), by decide, rfl⟩)) rfl (tl_mem (d := ("_law_is_refused", none)) (by decide)) (tl_uniq T (d := ("_law_is_refused", none)) (by decide)) hr (LamX.lamS_by (show LamX.lamSB (defScope s_l_is_refused) _ = true by decide +kernel)) rfl (fun _ _ _ _ _ => rfl) (fun A outer s H E f c' hr2 => (by exact pe_op (op_binL (bo_mod T) (ok_Span_modC T) T.b_Span_mod (hr2.mono (by decide)) (passes_call (takes_of rfl rfl rfl rfl) (fun _ _ _ _ h => h))) (pv 0) (pv 1)))) pa_nil)))
  (C8.pss_cut (ps_if (pt_val (pe_callB (call_isiK (K := K) rfl) (by rfl) T.n_isinstance (by decide +kernel) (pa_cons (pv 1) (pa_cons (pe_glob (v := .ref (He.ga K "Span")) rfl T.g_Span RelT.ref) pa_nil)))) (pss_cons (ps_expr (pe_bm PySem.F.plainAttrs_list PySem.F.slot_list_append PySem.F.type_list_append mt_append (pv 2) (pa_cons (pe_tried (k := 8) T rfl (hT _ (List.mem_map.mpr ⟨("_law_is_refused", none), by decide, rfl⟩)) rfl (tl_mem (d := ("_law_is_refused", none)) (by decide)) (tl_uniq T (d := ("_law_is_refused", none)) (by decide)) hr (LamX.lamS_by (show LamX.lamSB (defScope s_l_is_refused) _ = true by decide +kernel)) rfl (fun _ _ _ _ _ => rfl) (fun A outer s H E f c' hr2 => (by exact pe_op (op_binR (bo_floordiv T) declB_floordiv (ok_Span_rfloordivC T) T.b_Span_rfloordiv (hr2.mono (by decide)) (passes_call (takes_of rfl rfl rfl rfl) (fun _ _ _ _ h => h))) pe_int (pv 1)))) pa_nil)))
  (pss_one (ps_expr (pe_bm PySem.F.plainAttrs_list PySem.F.slot_list_append PySem.F.type_list_append mt_append (pv 2) (pa_cons (pe_tried (k := 8) T rfl (hT _ (List.mem_map.mpr ⟨("_law_is_refused", none), by decide, rfl⟩)) rfl (tl_mem (d := ("_law_is_refused", none)) (by decide)) (tl_uniq T (d := ("_law_is_refused", none)) (by decide)) hr (LamX.lamS_by (show LamX.lamSB (defScope s_l_is_refused) _ = true by decide +kernel)) rfl (fun _ _ _ _ _ => rfl) (fun A outer s H E f c' hr2 => (by exact pe_op (op_binR (bo_mod T) declB_mod (ok_Span_rmodC T) T.b_Span_rmod (hr2.mono (by decide)) (passes_call (takes_of rfl rfl rfl rfl) (fun _ _ _ _ h => h))) pe_int (pv 1)))) pa_nil)))))
   pss_nil)
  (pss_cons (ps_if (pt_val (pe_callB (cr_any rfl) (by rfl) T.n_any (by decide +kernel) (pa_cons (pe_lc (own := [("_law_y", 4)]) (g := gName 4) (tt := tYes) (by rfl) sc_l_is_refused.nd (pi_list (pv 2)) (blkOk_by (own := [("_law_y", 4)]) (N := ["_law_a", "_law_zero", "_law_found", "_law_bare", "_law_y"]) (sc := defScope s_l_is_refused) (by decide +kernel)) (fun _ _ _ _ _ => (pg_name (i := 4) sc_l_is_refused.nd rfl (by first | exact Or.inl rfl | exact Or.inr rfl))) (fun _ _ _ _ _ => pts_nil) (fun _ _ _ _ _ => (pe_or (pe_cmpR op_ne (pe_ix (ix_K (K := K) (r := fun K1 => rIxT K1) rfl ix_tup) (pv 4) pe_int (fun _ _ => rfl)) pe_str (nomark _)) (pe_one (pe_cmpR (op_both op_ne (op_K (K := K) (r := fun K1 => rNeI K1 (He.ga K "Span") (spEqS K) E0) rfl (by exact op_neI T.ne_Span T.ob_Span T.m_Span_eq.at_ T.m_Span_eq.fn (ok_Span_eq T) T.b_Span_eq (hr.mono (by decide)) pass0))) (pe_ix (ix_K (K := K) (r := fun K1 => rIxT K1) rfl ix_tup) (pv 4) pe_int (fun _ _ => rfl)) (pv 1) (nomark _)))))) pa_nil))) (pss_one (ps_ret pe_bl))
   pss_nil)
  (pss_one (ps_if (pt_val (pe_callB (cr_any rfl) (by rfl) T.n_any (by decide +kernel) (pa_cons (pe_lc (own := [("_law_y", 4)]) (g := gName 4) (tt := tYes) (by rfl) sc_l_is_refused.nd (pi_list (pv 2)) (blkOk_by (own := [("_law_y", 4)]) (N := ["_law_a", "_law_zero", "_law_found", "_law_bare", "_law_y"]) (sc := defScope s_l_is_refused) (by decide +kernel)) (fun _ _ _ _ _ => (pg_name (i := 4) sc_l_is_refused.nd rfl (by first | exact Or.inl rfl | exact Or.inr rfl))) (fun _ _ _ _ _ => pts_nil) (fun _ _ _ _ _ => (pe_cmpR op_ne (pe_callB (call_isiK (K := K) rfl) (by rfl) T.n_isinstance (by decide +kernel) (pa_cons (pe_ix (ix_K (K := K) (r := fun K1 => rIxT K1) rfl ix_tup) (pv 4) pe_int (fun _ _ => rfl)) (pa_cons (pe_glob (v := .ref (He.ga K "Span")) rfl T.g_Span RelT.ref) pa_nil))) (pe_callB (call_isiK (K := K) rfl) (by rfl) T.n_isinstance (by decide +kernel) (pa_cons (pv 1) (pa_cons (pe_glob (v := .ref (He.ga K "Span")) rfl T.g_Span RelT.ref) pa_nil))) (nomark _)))) pa_nil))) (pss_one (ps_ret pe_bl))
   pss_nil)))))))
  (pss_cons (ps_asg (pe_lst (pa_cons pe_int pa_nil)) (pg_name (i := 3) sc_l_is_refused.nd rfl (by first | exact Or.inl rfl | exact Or.inr rfl)))
  (pss_cons (ps_asg (pe_lst (pa_cons (pe_tried (k := 8) T rfl (hT _ (List.mem_map.mpr ⟨("_law_is_refused", none), by decide, rfl⟩)) rfl (tl_mem (d := ("_law_is_refused", none)) (by decide)) (tl_uniq T (d := ("_law_is_refused", none)) (by decide)) hr (LamX.lamS_by (show LamX.lamSB (defScope s_l_is_refused) _ = true by decide +kernel)) rfl (fun _ _ _ _ _ => rfl) (fun A outer s H E f c' hr2 => (by exact pe_makeX T.k_Span (ok_Span_initC T) (hr2.mono (by decide)) rfl T.g_Span T.b_Span_init1 (passes_call (takes_of rfl rfl rfl rfl) (fun _ _ _ _ h => h)) (pa_cons (pv 0) pa_nil)))) pa_nil)) (pg_name (i := 2) sc_l_is_refused.nd rfl (by first | exact Or.inl rfl | exact Or.inr rfl)))
  (pss_cons (ps_expr (pe_bm PySem.F.plainAttrs_list PySem.F.slot_list_append PySem.F.type_list_append mt_append (pv 2) (pa_cons (pe_tried (k := 8) T rfl (hT _ (List.mem_map.mpr ⟨("_law_is_refused", none), by decide, rfl⟩)) rfl (tl_mem (d := ("_law_is_refused", none)) (by decide)) (tl_uniq T (d := ("_law_is_refused", none)) (by decide)) hr (LamX.lamS_by (show LamX.lamSB (defScope s_l_is_refused) _ = true by decide +kernel)) rfl (fun _ _ _ _ _ => rfl) (fun A outer s H E f c' hr2 => (by exact pe_makeX T.k_Span (ok_Span_initC T) (hr2.mono (by decide)) rfl T.g_Span T.b_Span_init2 (passes_call (takes_of rfl rfl rfl rfl) (fun _ _ _ _ h => h)) (pa_cons pe_int (pa_cons (pv 0) pa_nil))))) pa_nil)))
  (pss_cons (ps_expr (pe_bm PySem.F.plainAttrs_list PySem.F.slot_list_append PySem.F.type_list_append mt_append (pv 2) (pa_cons (pe_tried (k := 8) T rfl (hT _ (List.mem_map.mpr ⟨("_law_is_refused", none), by decide, rfl⟩)) rfl (tl_mem (d := ("_law_is_refused", none)) (by decide)) (tl_uniq T (d := ("_law_is_refused", none)) (by decide)) hr (LamX.lamS_by (show LamX.lamSB (defScope s_l_is_refused) _ = true by decide +kernel)) rfl (fun _ _ _ _ _ => rfl) (fun A outer s H E f c' hr2 => (by exact pe_makeX T.k_Span (ok_Span_initC T) (hr2.mono (by decide)) rfl T.g_Span T.b_Span_init1 (passes_call (takes_of rfl rfl rfl rfl) (fun _ _ _ _ h => h)) (pa_cons (pv 3) pa_nil)))) pa_nil)))
  (C8.pss_cut (ps_expr (pe_bm PySem.F.plainAttrs_list PySem.F.slot_list_append PySem.F.type_list_append mt_append (pv 3) (pa_cons pe_int pa_nil)))
  (C8.pss_cut (ps_if (PW.pt (pw_or (pt_cmpR (op_neD hr.units) (pe_lc (own := [("_law_y", 4)]) (g := gName 4) (tt := tYes) (by rfl) sc_l_is_refused.nd (pi_list (pv 2)) (blkOk_by (own := [("_law_y", 4)]) (N := ["_law_a", "_law_zero", "_law_found", "_law_bare", "_law_y"]) (sc := defScope s_l_is_refused) (by decide +kernel)) (fun _ _ _ _ _ => (pg_name (i := 4) sc_l_is_refused.nd rfl (by first | exact Or.inl rfl | exact Or.inr rfl))) (fun _ _ _ _ _ => pts_nil) (fun _ _ _ _ _ => (pe_ix (ix_K (K := K) (r := fun K1 => rIxT K1) rfl ix_tup) (pv 4) pe_int (fun _ _ => rfl)))) (pe_op op_rep (pe_lst (pa_cons pe_str pa_nil)) pe_int) (nomark _)) (pw_or (pt_cmpR (by exact op_neI T.ne_Span T.ob_Span T.m_Span_eq.at_ T.m_Span_eq.fn (ok_Span_eq T) T.b_Span_eq (hr.mono (by decide)) pass0) (pe_ix ix_tup (pe_ix ix_list (pv 2) pe_int (fun _ _ => rfl)) pe_int (fun _ _ => rfl)) (pv 0) (nomark _)) (pw_or1 (pt_cmpR (by exact op_neI T.ne_Span T.ob_Span T.m_Span_eq.at_ T.m_Span_eq.fn (ok_Span_eq T) T.b_Span_eq (hr.mono (by decide)) pass0) (pe_ix ix_tup (pe_ix ix_list (pv 2) pe_int (fun _ _ => rfl)) pe_int (fun _ _ => rfl)) (pv 0) (nomark _)))))) (pss_one (ps_ret pe_bl))
   pss_nil)
  (pss_one (ps_ret (pe_call (ok_l_same T 1 (by decide)) (hr.mono (by decide)) rfl T.g_l_same T.F_l_same.kp T.b_l_same .nil pass0 (pa_cons (pe_ix ix_tup (pe_ix ix_list (pv 2) pe_int (fun _ _ => rfl)) pe_int (fun _ _ => rfl)) (pa_cons (pe_lst (pa_cons pe_int (pa_cons pe_int pa_nil))) pa_nil)))))))))))), ?_⟩
    walk_at "k"
    have nT : NoT (nt H) := nt_no
    have s0 : Stt H [] [] H := Stt.nil
    refine Rd.cut (fun σ' H' => ∃ v1 v2 v3 v4 : Option V, σ' = [some (.ref a), v1, v2, v3, v4] ∧ StT K (nt H) [] H') ?_ ?_
    · walk_at "rd"
      rename_i r1 H1 n1 s1 r2 H2 n2 s2 p H3 n3 s3
      have k3 : Kp [] H H3 := s3.keep
      have s4 : StT K (nt H) [(p, Is (.lst [.int 0, .ref r1, .ref r2])), (r2, SpanO K 0 1), (r1, SpanO K 0 1)] H3 := ⟨stt_ntS s3, tabs_kp tb k3, noTl_cons (fun ps h => by cases h) (noTl_cons span_nt (noTl_cons span_nt noTl_nil))⟩
      refine Rd.loop (walk_list (xs := [.int 0, .ref r1, .ref r2])) (fun i σ' H' => ∃ v1 v2 v3 v4 : Option V, σ' = [some (.ref a), v1, v2, v3, v4] ∧ StT K (nt H) [(p, Is (.lst [.int 0, .ref r1, .ref r2])), (r2, SpanO K 0 1), (r1, SpanO K 0 1)] H') ⟨_, _, _, _, rfl, s4⟩ (fun _ _ _ _ h => by obtain ⟨_, _, _, _, _, h⟩ := h; exact h.s.sqL (by walk_at "mem")) ?_ ?_
      · rintro n z σ' H5 H4 hn ⟨v1, v2, v3, v4, rfl, s5⟩ ⟨rfl, ez⟩
        clear s0 s1 s2 s3 s4
        have hA' : IsNum K (nt H4) (.ref a) i j := hA.kp0 (nt_kp s5 nT (H' := H4))
        have nT' : NoT (nt H4) := nt_no
        have s6 : StT K (nt H4) [] H4 := ⟨stt_nt, s5.tb, noTl_nil⟩
        have hz : ∃ b, Zr K (nt H4) z b := by
          have sp : ∀ r, (r, SpanO K 0 1) ∈ [(p, Is (HO.lst [V.int 0, .ref r1, .ref r2])), (r2, SpanO K 0 1), (r1, SpanO K 0 1)] → Zr K (nt H4) (.ref r) true := fun r m => by
            obtain ⟨o, o1, o2⟩ := s5.s.pick m
            exact .inr ⟨r, rfl, rfl, o, nt_of o1 fun ps q => span_nt ps (q ▸ o2), o2⟩
          have m := List.mem_of_getElem? ez
          simp only [List.mem_cons, List.not_mem_nil, or_false] at m
          rcases m with rfl | rfl | rfl
          · exact ⟨_, .inl ⟨rfl, rfl⟩⟩
          · exact ⟨_, sp _ (by walk_at "mem")⟩
          · exact ⟨_, sp _ (by walk_at "mem")⟩
        obtain ⟨b, hz⟩ := hz
        walk_at "rd"
        rename_i t1 H6 m1 u1 q H7 m2 u2 t2 H8 m3 u3 H9 u4
        refine Rd.cut (fun σ' H' => σ' = [some (.ref a), some z, some (.ref q), v3, v4] ∧ ∃ ts, StT K (nt H4) [(q, Is (.lst (ts.map V.ref)))] H' ∧ Fnd z ts H') ?_ ?_
        · obtain ⟨t, ty, kt, _⟩ := (hz.kp u4.s.keep).ty T
          walk_at "rd"
          refine Rd.br (fun hb => ?_) (fun hb => ?_)
          · subst hb
            clear u1 u2 u3
            walk_at "rd"
            rename_i t3 Ha m5 u5 Hb u6 t4 Hc m6 u7 Hd u8
            refine ⟨rfl, [t1, t2, t3, t4], u8.sub (List.Sublist.cons _ (List.Sublist.cons _ (List.Sublist.cons _ (List.Sublist.cons₂ _ (List.nil_sublist _))))), by simp, ?_⟩
            exact List.forall_mem_cons.mpr ⟨u8.s.get (by walk_at "mem"), List.forall_mem_cons.mpr ⟨u8.s.get (by walk_at "mem"), List.forall_mem_cons.mpr ⟨u8.s.get (by walk_at "mem"), List.forall_mem_cons.mpr ⟨u8.s.get (by walk_at "mem"), fun _ h => nomatch h⟩⟩⟩⟩
          · walk_at "rd"
            refine ⟨rfl, [t1, t2], u4.sub (List.Sublist.cons _ (List.Sublist.cons₂ _ (List.nil_sublist _))), by simp, ?_⟩
            exact List.forall_mem_cons.mpr ⟨u4.s.get (by walk_at "mem"), List.forall_mem_cons.mpr ⟨u4.s.get (by walk_at "mem"), fun _ h => nomatch h⟩⟩
        · rintro σ' Ha ⟨rfl, ts, w1, fd⟩
          clear u1 u2 u3 u4
          have ws := w1.s
          have fin : ∀ {HA : Hp} {D : Addr}, Stt Ha [] [(D, Is (.lst (List.replicate (ts.map V.ref).length (.bl false))))] HA → Stt Ha [] [(D, Is (.lst ((List.replicate (ts.map V.ref).length false).map V.bl)))] HA := fun s => by
            rw [List.map_replicate]
            exact s
          have e3 : (List.replicate (ts.map V.ref).length false).any id = false := by simp
          have ed : ∀ v : V, decide (v = v) = true := fun v => decide_eq_true rfl
          walk_at "rd"
          refine Rd.lcG (walk_list (xs := ts.map V.ref)) (Stt.nil (H := Ha)) (fun i acc ex => ex = [] ∧ acc = List.replicate i (.bl false)) ⟨rfl, rfl⟩ (fun H' D acc ex _ z' => z'.upL (w1.s.sqL List.mem_cons_self)) ?_ ?_
          · rintro D hD m y HA HB acc ex hm ⟨rfl, rfl⟩ hac u ⟨rfl, e2⟩
            obtain ⟨t, rfl, ht⟩ := (fd.kp u.keep).at_ e2
            have hz' := (hz.kp w1.s.keep).kp u.keep
            have hl : (ts.map V.ref).length ≤ 4 := by rw [List.length_map]; exact fd.1
            walk_at "rd"
            refine ixP ht rfl ?_
            walk_at "rd"
            refine ixP ht rfl ?_
            walk_at "rd"
            refine neZ T hz' ?_
            walk_at "rd"
            refine Rd.lcE u hD (by omega) hac ⟨rfl, ?_⟩
            rw [List.replicate_succ']
          · rintro D HA acc ex hD ⟨rfl, rfl⟩ u
            have u2 := fin u
            have wB := w1.kp u.keep
            have wBs := wB.s
            have fdB := fd.kp u.keep
            clear ws
            walk_at "rd"
            refine Rd.anyL u2 (by walk_at "mem") ?_
            rw [e3]
            walk_at "rd"
            refine Rd.lcG (walk_list (xs := ts.map V.ref)) (Stt.nil (H := HA)) (fun i acc ex => ex = [] ∧ acc = List.replicate i (.bl false)) ⟨rfl, rfl⟩ (fun H' D acc ex _ z' => z'.upL (wB.s.sqL List.mem_cons_self)) ?_ ?_
            · rintro D' hD' m y HB HC acc ex hm ⟨rfl, rfl⟩ hac u' ⟨rfl, e2⟩
              obtain ⟨t, rfl, ht⟩ := (fdB.kp u'.keep).at_ e2
              have hz' := (hz.kp wB.s.keep).kp u'.keep
              have hl : (ts.map V.ref).length ≤ 4 := by rw [List.length_map]; exact fd.1
              obtain ⟨tt, ty, kt, _⟩ := hz'.ty T
              walk_at "rd"
              refine ixP ht rfl ?_
              walk_at "rd"
              have ed : decide (V.bl b = V.bl b) = true := decide_eq_true rfl
              rw [ed]
              refine Rd.lcE u' hD' (by omega) hac ⟨rfl, ?_⟩
              rw [List.replicate_succ']
              rfl
            · rintro D' HB acc ex hD' ⟨rfl, rfl⟩ u'
              have u3 : Stt HA [] [(D', Is (.lst ((List.replicate (ts.map V.ref).length false).map V.bl)))] HB := by
                rw [List.map_replicate]
                exact u'
              walk_at "rd"
              refine Rd.anyL u3 (by walk_at "mem") ?_
              rw [e3]
              walk_at "rd"
              exact ⟨_, _, _, _, rfl, StT.reb nT s5 (wB.kp u'.keep)⟩
      · rintro σ' H' ⟨v1, v2, v3, v4, rfl, h⟩
        exact ⟨v1, v2, v3, v4, rfl, h.sub (List.nil_sublist _)⟩
    · rintro σ' H1 ⟨v1, v2, v3, v4, rfl, s1⟩
      walk_at "rd"
      rename_i p H2 np s2
      refine lamP (v := .ref a) nT s2 (fun H2 E' Q' s2 hE => ?_) fun t1 H3 n1 s3 => ?_
      · walk_at "rd"
        exact mk_refused rfl (.inl ⟨fun H' k => noI_span T (hA.kp0 (s2.s.keep.trans k fun _ h => .inl h)), rfl⟩) hE
      walk_at "rd"
      rename_i q H4 nq s4
      refine lamP (v := .ref a) nT s4 (fun H2 E' Q' s2 hE => ?_) fun t2 H5 n2 s5 => ?_
      · walk_at "rd"
        exact mk_refused rfl (.inr ⟨1, rfl, fun H' k => noI_span T (hA.kp0 (s2.s.keep.trans k fun _ h => .inl h)), rfl⟩) hE
      clear s2 s3
      walk_at "rd"
      rename_i H6 s6
      refine lamP (v := .ref p) nT s6 (fun H2 E' Q' s2 hE => ?_) fun t3 H7 n3 s7 => ?_
      · walk_at "rd"
        exact mk_refused rfl (.inl ⟨fun H' k => ⟨_, noInt_oth T (.inr (.inr (.inr (.inl ⟨p, _, rfl, k.get List.not_mem_nil (s2.s.get (by walk_at "mem"))⟩))))⟩, rfl⟩) hE
      clear s4 s5
      walk_at "rd"
      rename_i H8 s8
      refine Rd.cut (fun σ' H' => σ' = [some (.ref a), v1, some (.ref q), some (.ref p), v4] ∧ StT K (nt H) [(t3, Is (.tup [.str "part", .ref p])), (t2, Is (.tup [.str "part", .ref a])), (q, Is (.lst [.ref t1, .ref t2, .ref t3])), (t1, Is (.tup [.str "part", .ref a])), (p, Is (.lst [.int 1, .int 2]))] H') ?_ ?_
      · walk_at "rd"
        rename_i H9 s9
        exact ⟨rfl, s9⟩
      rintro σ' H9 ⟨rfl, s9⟩
      clear s6 s7 s8
      refine Rd.cut (fun σ' H' => ∃ v5, σ' = [some (.ref a), v1, some (.ref q), some (.ref p), v5] ∧ Kp [] H9 H') ?_ ?_
      · have w9 : Stt H9 [] [(t3, Is (.tup [.str "part", .ref p])), (t2, Is (.tup [.str "part", .ref a])), (q, Is (.lst [.ref t1, .ref t2, .ref t3])), (t1, Is (.tup [.str "part", .ref a])), (p, Is (.lst [.int 1, .int 2]))] H9 := s9.s.base (List.Sublist.refl _)
        walk_at "rd"
        refine Rd.lcG (walk_list (xs := [V.ref t1, V.ref t2, V.ref t3])) w9 (fun i acc ex => ex = [] ∧ acc = List.replicate i (.str "part")) ⟨rfl, rfl⟩ (fun H' D acc ex _ z' => z'.upL (s9.s.sqL (by walk_at "mem"))) ?_ ?_
        · rintro D hD m y HA HB acc ex hm ⟨rfl, rfl⟩ hac u ⟨rfl, e2⟩
          have ht : ∃ t z, y = .ref t ∧ HB t = some (.tup [.str "part", z]) := by
            have m := List.mem_of_getElem? e2
            simp only [List.mem_cons, List.not_mem_nil, or_false] at m
            rcases m with rfl | rfl | rfl
            · exact ⟨t1, _, rfl, u.keep.get List.not_mem_nil (s9.s.get (by walk_at "mem"))⟩
            · exact ⟨t2, _, rfl, u.keep.get List.not_mem_nil (s9.s.get (by walk_at "mem"))⟩
            · exact ⟨t3, _, rfl, u.keep.get List.not_mem_nil (s9.s.get (by walk_at "mem"))⟩
          obtain ⟨t, z, rfl, ht⟩ := ht
          have hl : [V.ref t1, V.ref t2, V.ref t3].length = 3 := rfl
          walk_at "rd"
          refine ixP ht rfl ?_
          walk_at "rd"
          refine Rd.lcE u hD (by omega) hac ⟨rfl, ?_⟩
          rw [List.replicate_succ']
        · rintro D HA acc ex hD ⟨rfl, rfl⟩ u
          have wA : Stt H9 [] ((D, Is (.lst [.str "part", .str "part", .str "part"])) :: [(t3, Is (.tup [.str "part", .ref p])), (t2, Is (.tup [.str "part", .ref a])), (q, Is (.lst [.ref t1, .ref t2, .ref t3])), (t1, Is (.tup [.str "part", .ref a])), (p, Is (.lst [.int 1, .int 2]))]) HA := u
          clear u w9
          walk_at "rd"
          rename_i p3 HB n4 wB
          refine rep3 wB (by walk_at "mem") fun p4 HC n5 wC => ?_
          clear wA wB
          refine neDr (.lst (wC.sqL (a := D) (by walk_at "mem")) (.cons (.str _) (.cons (.str _) (.cons (.str _) .nil)))) (.lst (wC.sqL (a := p4) (by walk_at "mem")) (.cons (.str _) (.cons (.str _) (.cons (.str _) .nil)))) (by decide +kernel) (by decide +kernel) ?_
          rw [show (!PyData.eqv (.list [.str "part", .str "part", .str "part"]) (.list [.str "part", .str "part", .str "part"])) = false by decide +kernel]
          walk_at "rd"
          refine neA T (hA.kp0 (s9.s.keep.trans wC.keep fun _ h => nomatch h)) ?_
          walk_at "rd"
          refine neA T (hA.kp0 (s9.s.keep.trans wC.keep fun _ h => nomatch h)) ?_
          walk_at "rd"
          exact ⟨_, rfl, wC.keep⟩
      · rintro σ' HA ⟨v5, rfl, k9⟩
        have wA := s9.kp k9
        have wB : Stt HA [] [(t3, Is (.tup [.str "part", .ref p])), (q, Is (.lst [.ref t1, .ref t2, .ref t3])), (p, Is (.lst [.int 1, .int 2]))] HA := wA.s.base (by walk_at "subl")
        clear s9
        walk_at "rd"
        rename_i r HB nr wC
        refine ⟨.ref p, .ref r, rfl, .lst (wC.get (by walk_at "mem")) (wC.get (by walk_at "mem")) rfl (by decide) (fun n x y e1 e2 => ?_), fun H' kp => ?_⟩
        · have e := Option.some.inj (e1.symm.trans e2)
          subst e
          have m := List.mem_of_getElem? e1
          simp only [List.mem_cons, List.not_mem_nil, or_false] at m
          rcases m with rfl | rfl
          · exact .int _ _
          · exact .int _ _
        · have w := (wA.kp wC.keep).kp kp
          exact k H' (w.s.sub (List.nil_sublist _)) w.tb
end

end
section
variable {P : Program} {w : World} {K : PySem.W.Frag} {mg : Str → Option Value} {base : Heap}
theorem tabs_nil {H : Hp} (h : ∀ p ∈ cts tf K, H p.2 = some (.tbl #[])) : LamX.Tabs (TL K) H := fun q hq => by
  obtain ⟨d, hd, rfl⟩ := List.mem_map.mp hq
  exact LamX.TabS.nil (h _ (List.mem_map.mpr ⟨d, hd, rfl⟩))
def spLaw (K : PySem.W.Frag) : Sp := fun vs H Q _ => ∃ (a : Addr) (ns : List Int), vs = [.ref a] ∧ SqL K H a (ns.map V.int) ∧ ns.length ≤ 63 ∧ LamX.Tabs (TL K) H ∧ ∀ H', Q (.bl true) H'

end
section
local macro_rules | `(tactic| walk_at "subl") => `(tactic| first | with_reducible exact List.nil_sublist _ | with_reducible exact List.Sublist.refl _ | (with_reducible refine List.Sublist.cons₂ _ ?_; walk_at "subl") | (with_reducible refine List.Sublist.cons _ ?_; walk_at "subl"))
local macro_rules | `(tactic| walk_at "k") => `(tactic| try dsimp only [L2.cxOf, L2.Cx.nox, L2.Cx.wish, L2.Cx.blk])
local macro_rules | `(tactic| walk_at "ask") => `(tactic| fail)
local macro_rules | `(tactic| walk_at "mem") => `(tactic| first | with_reducible exact List.mem_cons_self | (with_reducible apply List.mem_cons_of_mem; walk_at "mem"))
local macro_rules | `(tactic| walk_at "put") => `(tactic| first | with_reducible exact Lt.Put.head | (with_reducible apply Lt.Put.tail; walk_at "put"))
local macro_rules | `(tactic| walk_at "own") => `(tactic| first | exact Or.inr (by assumption) | exact Or.inl (by walk_at "mem"))
local macro_rules | `(tactic| walk_at "cnd") => `(tactic| first | assumption | decide | ((try dsimp only); omega) | (unfold CMul; omega) | (unfold CDiv; omega) | (unfold CPow; omega) | exact Or.inr (by decide) | exact Or.inl (by decide) | exact wide_div (b := 128) (by omega) (by omega) (by decide) (by decide))
local macro_rules | `(tactic| walk_at "at") => `(tactic| first | exact rfl | assumption)
local macro_rules | `(tactic| walk_at "kit") => `(tactic| first | assumption | exact kit_int_int | exact kit_int_bool | exact kit_int_str | exact kit_int_list | exact kit_int_tuple | exact kit_int_dict | exact kit_bool_int | exact kit_bool_bool | exact kit_bool_str | exact kit_bool_list | exact kit_bool_tuple | exact kit_bool_dict | exact kit_str_int | exact kit_str_bool | exact kit_str_str | exact kit_str_list | exact kit_str_tuple | exact kit_str_dict | exact kit_list_int | exact kit_list_bool | exact kit_list_str | exact kit_list_list | exact kit_list_tuple | exact kit_list_dict | exact kit_tuple_int | exact kit_tuple_bool | exact kit_tuple_str | exact kit_tuple_list | exact kit_tuple_tuple | exact kit_tuple_dict | exact kit_dict_int | exact kit_dict_bool | exact kit_dict_str | exact kit_dict_list | exact kit_dict_tuple | exact kit_dict_dict | exact kit_NoneType_int | exact kit_NoneType_bool | exact kit_NoneType_str | exact kit_NoneType_list | exact kit_NoneType_tuple | exact kit_NoneType_dict)
local macro_rules | `(tactic| walk_at "kitA") => `(tactic| first | assumption | exact kitA_lt_int | exact kitA_lt_bool | exact kitA_lt_str | exact kitA_lt_list | exact kitA_lt_tuple | exact kitA_lt_dict | exact kitA_lt_NoneType | exact kitA_bilt_int | exact kitA_bilt_bool | exact kitA_bilt_str | exact kitA_bilt_list | exact kitA_bilt_tuple | exact kitA_bilt_dict | exact kitA_bilt_NoneType)
local macro_rules | `(tactic| walk_at "ty") => `(tactic| first | exact .base (.int _) | exact .base (.bl _) | exact .base (.str _) | exact .base .non | exact .base (.lst (Stt.get (by assumption) (by walk_at "mem"))) | exact .base (.tup (Stt.get (by assumption) (by walk_at "mem"))) | exact .base (.dK (Stt.get (by assumption) (by walk_at "mem"))) | exact sqL_ty (Stt.upL (by assumption) (by assumption)) | exact sqT_ty (Stt.upT (by assumption) (by assumption)) | exact InsT.ty (by assumption) (Stt.get (by assumption) (by walk_at "mem")) | assumption)
local macro_rules | `(tactic| walk_at "rd1") => `(tactic| first
  | with_reducible refine' Rd.seq ?_
  | with_reducible refine' Rd.asg ?_
  | ((with_reducible refine' Rd.var ?vh ?_); (case vh => exact rfl))
  | with_reducible refine' Rd.con ?_
  | with_reducible refine' Rd.op ?_
  | with_reducible refine' Rd.i0 ?_
  | ((with_reducible refine' Rd.ic ?vh ?_); (case vh => walk_at "cnd"))
  | ((with_reducible refine' Rd.ixL ?v1 ?v2 ?v3 ?_); (case v1 => assumption); (case v2 => walk_at "mem"); (case v3 => walk_at "at"))
  | ((with_reducible refine' Rd.ixT ?v1 ?v2 ?v3 ?_); (case v1 => assumption); (case v2 => walk_at "mem"); (case v3 => walk_at "at"))
  | ((with_reducible refine' Rd.ixD2 ?v1 ?v2 ?_); (case v1 => assumption); (case v2 => walk_at "mem"); intro _)
  | ((with_reducible refine' Rd.ixD3 ?v1 ?v2 ?_); (case v1 => assumption); (case v2 => walk_at "mem"); intro _)
  | ((with_reducible refine' Rd.setD2 ?v1 ?v2 ?v3 ?v4 ?_); (case v1 => assumption); (case v2 => walk_at "mem"); (case v3 => walk_at "put"); (case v4 => walk_at "own"); intro _ _)
  | ((with_reducible refine' Rd.isi ?v1 ?v2 ?v3 ?_); (case v1 => walk_at "ty"); (case v2 => first | exact ClsV.ty _ | exact ClsV.own _); (case v3 => walk_at "kit"))
  | with_reducible refine' Rd.fld ?_
  | ((with_reducible refine' Rd.fldI ?v1 ?v2 ?v3 ?v4 ?v5 ?_); (case v1 => assumption); (case v2 => walk_at "mem"); (case v3 => assumption); (case v4 => assumption); (case v5 => walk_at "at"))
  | with_reducible refine' Rd.sfld ?_
  | ((with_reducible refine' Rd.sfldI ?v1 ?v2 ?v3 ?v4 ?v5 ?v6 ?v7 ?_); (case v1 => assumption); (case v2 => walk_at "mem"); (case v3 => assumption); (case v4 => assumption); (case v5 => first | decide | (refine Nat.lt_of_le_of_lt (putF_len _ _ _) ?_; decide)); (case v6 => walk_at "put"); (case v7 => walk_at "own"); intro _ _)
  | with_reducible refine' Rd.make ?_
  | with_reducible refine' Rd.gcd ?_
  | with_reducible refine' Rd.cons ?_
  | with_reducible refine' Rd.nil ?_
  | with_reducible refine' Rd.cb ?_
  | with_reducible refine' Rd.intI ?_
  | with_reducible refine' Rd.absI ?_
  | ((with_reducible refine' Rd.lenL ?v1 ?v2 ?_); (case v1 => assumption); (case v2 => walk_at "mem"))
  | ((with_reducible refine' Rd.lenT ?v1 ?v2 ?_); (case v1 => assumption); (case v2 => walk_at "mem"))
  | ((with_reducible refine' Rd.lenBL ?v1 ?v2 ?v3 ?_); (case v1 => assumption); (case v2 => assumption); (case v3 => first | exact List.not_mem_nil | assumption))
  | ((with_reducible refine' Rd.lenBT ?v1 ?v2 ?v3 ?_); (case v1 => assumption); (case v2 => assumption); (case v3 => first | exact List.not_mem_nil | assumption))
  | ((with_reducible refine' Rd.ixBL ?v1 ?v2 ?v4 ?v3 ?_); (case v1 => assumption); (case v2 => assumption); (case v4 => first | exact List.not_mem_nil | assumption); (case v3 => walk_at "at"))
  | ((with_reducible refine' Rd.ixBT ?v1 ?v2 ?v4 ?v3 ?_); (case v1 => assumption); (case v2 => assumption); (case v4 => first | exact List.not_mem_nil | assumption); (case v3 => walk_at "at"))
  | ((with_reducible refine' Rd.brI ?vh ?_); (case vh => with_reducible exact rfl))
  | with_reducible refine' Rd.ifS ?_
  | with_reducible refine' Rd.test ?_
  | with_reducible refine' Rd.tbl ?_
  | with_reducible refine' Rd.bl ?_
  | with_reducible refine' Rd.brTT ?_
  | with_reducible refine' Rd.brFF ?_
  | with_reducible refine' Rd.brN ?_
  | ((with_reducible refine' Rd.aug ?vh ?_); (case vh => exact rfl))
  | with_reducible refine' Rd.ipI ?_
  | with_reducible refine' Rd.blV ?_
  | with_reducible refine' Rd.notVL ?_
  | with_reducible refine' Rd.andT ?_
  | with_reducible refine' Rd.orT ?_
  | with_reducible refine' Rd.notT ?_
  | with_reducible refine' Rd.andV ?_
  | with_reducible refine' Rd.orV ?_
  | with_reducible refine' Rd.notV ?_
  | with_reducible refine' Rd.ifE ?_
  | ((with_reducible refine' Rd.eqS ?vh ?_); (case vh => exact rfl))
  | ((with_reducible refine' Rd.neS ?vh ?_); (case vh => exact rfl))
  | with_reducible refine' Rd.par ?_
  | with_reducible refine' Rd.parL ?_
  | with_reducible refine' Rd.un ?_
  | with_reducible refine' Rd.u1 ?_
  | with_reducible refine' Rd.sub ?_
  | ((with_reducible refine' Rd.setL ?v1 ?v2 ?v3 ?v4 ?v5 ?_); (case v1 => assumption); (case v2 => walk_at "mem"); (case v3 => walk_at "at"); (case v4 => walk_at "put"); (case v5 => walk_at "own"); intro _ _)
  | with_reducible refine' Rd.tup ?_
  | with_reducible refine' Rd.lst ?_
  | ((with_reducible refine' Rd.tupN ?v1 ?v2 ?_); (case v1 => assumption); (case v2 => simp only [List.length_cons, List.length_nil]; decide); intro _ _ _ _)
  | ((with_reducible refine' Rd.lstN ?v1 ?v2 ?_); (case v1 => assumption); (case v2 => simp only [List.length_cons, List.length_nil]; decide); intro _ _ _ _)
  | with_reducible refine' Rd.ret ?_
  | with_reducible refine' Rd.drop ?_
  | with_reducible refine' Rd.retN ?_
  | with_reducible refine' Rd.next ?_
  | with_reducible refine' Rd.brk ?_
  | with_reducible refine' Rd.cont ?_
  | with_reducible refine' Rd.call ?_
  | walk_at "ask"
  | with_reducible refine' Rd.bm ?_
  | ((with_reducible refine' Rd.bmL ?v1 ?v2 ?_); (case v1 => assumption); (case v2 => walk_at "mem"))
  | ((with_reducible refine' Rd.app ?v1 ?v2 ?v3 ?v4 ?v5 ?_); (case v1 => assumption); (case v2 => walk_at "mem"); (case v3 => simp only [List.length_cons, List.length_nil, List.length_append]; omega); (case v4 => walk_at "put"); (case v5 => walk_at "own"); intro _ _)
  | with_reducible refine' Rd.asgT ?_
  | ((with_reducible refine' Rd.gtup ?v1 ?v2 ?v3 ?_); (case v1 => assumption); (case v2 => walk_at "mem"); (case v3 => exact rfl))
  | with_reducible refine' Rd.gcons ?_
  | with_reducible refine' Rd.gname ?_
  | with_reducible refine' Rd.gnil ?_
  | with_reducible refine' Rd.sl ?_
  | with_reducible refine' Rd.noPart ?_
  | with_reducible refine' Rd.part ?_
  | with_reducible refine' Rd.prt ?_
  | with_reducible refine' Rd.isB ?_
  | ((with_reducible refine' Rd.wp ?vh ?_); (case vh => exact rfl))
  | with_reducible refine' Rd.makeK ?_
  | with_reducible refine' Rd.meth ?_
  | ((with_reducible refine' Rd.catL ?v1 ?v2 ?v3 ?v4 ?_); (case v1 => assumption); (case v2 => walk_at "mem"); (case v3 => walk_at "mem"); (case v4 => simp only [List.length_cons, List.length_nil, List.length_append]; omega); intro _ _ _ _)
  | with_reducible refine' Rd.dnew ?_
  | ((with_reducible refine' Rd.dnewL ?v1 ?_); (case v1 => assumption); intro _ _ _ _)
  | with_reducible refine' Rd.lc ?_
  | with_reducible refine' Rd.wZ ?_
  | with_reducible refine' Rd.tYesH ?_
  | with_reducible refine' Rd.fmt ?_
  | with_reducible refine' Rd.joined ?_
  | with_reducible refine' Rd.jsNil ?_
  | with_reducible refine' Rd.jsCons ?_
  | ((with_reducible refine' Rd.isiT ?v1 ?v2 ?v3 ?v4 ?v5 ?_); (case v1 => assumption); (case v2 => walk_at "mem"); (case v3 => walk_at "ty"); (case v4 => first | exact .cons (.ty _) (.cons (.ty _) .nil) | exact .cons (.ty _) (.cons (.ty _) (.cons (.ty _) (.cons (.ty _) .nil))) | exact .cons (.ty _) (.cons (.ty _) (.cons (.ty _) .nil))); (case v5 => walk_at "kitA"))
  | with_reducible refine' Rd.forS ?_
  | with_reducible refine' Rd.wEnT ?_
  | ((with_reducible refine' Rd.wEnTL ?v1 ?v2 ?_); (case v1 => assumption); (case v2 => walk_at "mem"))
  | with_reducible refine' Rd.wL ?_
  | ((with_reducible refine' Rd.wLL ?v1 ?v2 ?_); (case v1 => assumption); (case v2 => walk_at "mem"))
  | with_reducible refine' Rd.wT ?_
  | ((with_reducible refine' Rd.wTL ?v1 ?v2 ?_); (case v1 => assumption); (case v2 => walk_at "mem"))
  | with_reducible refine' Rd.wR1 ?_
  | ((with_reducible refine' Rd.wR1L ?v1 ?v2 ?_); (case v1 => omega); (case v2 => omega))
  | with_reducible refine' Rd.wR2 ?_
  | ((with_reducible refine' Rd.wR2L ?v1 ?_); (case v1 => omega)))
local macro_rules | `(tactic| walk_at "rd") => `(tactic| repeat (walk_at "rd1"))

local macro_rules | `(tactic| walk_at "ask") => `(tactic| ((with_reducible refine' fill_ask ?v1 ?v2 ?v3 ?v4 ?v5 ?_); (case v1 => assumption); (case v2 => walk_at "mem"); (case v3 => walk_at "mem"); (case v4 => assumption); (case v5 => walk_at "own"); intro _ _))

local macro_rules | `(tactic| walk_at "ask") => `(tactic| ((with_reducible refine' take_ask ?v1 ?v2 ?v3 ?v4 ?v5 ?v6 ?_); (case v1 => assumption); (case v2 => walk_at "mem"); (case v3 => walk_at "mem"); (case v4 => assumption); (case v5 => walk_at "own"); (case v6 => first | decide | omega); intro _ _ _ _))
local macro_rules | `(tactic| walk_at "ask") => `(tactic| ((with_reducible refine' one_ask ?v1 ?v2 ?v3 ?v4 ?v5 ?_); (case v1 => assumption); (case v2 => walk_at "subl"); (case v3 => assumption); (case v4 => walk_at "own"); (case v5 => simp only [List.length_append, List.length_cons, List.length_nil]; decide); intro _ _ _ _))
local macro_rules | `(tactic| walk_at "ask") => `(tactic| ((with_reducible refine' fig_ask ?v1 ?v2 ?v3 ?v4 ?_); (case v1 => assumption); (case v2 => walk_at "subl"); (case v3 => assumption); (case v4 => walk_at "own"); intro _ _ _ _))
local macro_rules | `(tactic| walk_at "ask") => `(tactic| ((with_reducible refine' low_ask ?v1 ?v2 ?v3 ?v4 ?_); (case v1 => assumption); (case v2 => first | assumption | omega); (case v3 => omega); (case v4 => omega); intro _ _ _ _))
local macro_rules | `(tactic| walk_at "ask") => `(tactic| ((with_reducible refine' frac_ask ?v1 ?v2 ?v3 ?v4 ?_); (case v1 => assumption); (case v2 => walk_at "subl"); (case v3 => assumption); (case v4 => walk_at "own"); intro _ _ _ _ _ _ _))

local macro_rules | `(tactic| walk_at "ask") => `(tactic| with_reducible refine' isI_int ?_)
local macro_rules | `(tactic| walk_at "ask") => `(tactic| ((with_reducible refine' mk_span ?v1 ?v2 ?v3 ?_); (case v1 => assumption); (case v2 => first | assumption | omega); (case v3 => first | assumption | omega); intro _ _ _ _))
local macro_rules | `(tactic| walk_at "ask") => `(tactic| ((with_reducible refine' mk_span1 ?v1 ?_); (case v1 => assumption); intro _ _ _ _))
local macro_rules | `(tactic| walk_at "ask") => `(tactic| ((with_reducible refine' fld_over ?v1 ?v2 ?v3 ?v4 ?_); (case v1 => assumption); (case v2 => assumption); (case v3 => assumption); (case v4 => walk_at "mem")))
local macro_rules | `(tactic| walk_at "ask") => `(tactic| ((with_reducible refine' fld_under ?v1 ?v2 ?v3 ?v4 ?_); (case v1 => assumption); (case v2 => assumption); (case v3 => assumption); (case v4 => walk_at "mem")))
local macro_rules | `(tactic| walk_at "ty") => `(tactic| exact span_ty (by assumption) (by assumption) (by walk_at "mem"))

section
variable {P : Program} {w : World} {K : PySem.W.Frag} {mg : Str → Option Value} {base : Heap}
/-! ### the law -/
theorem ok_l_behind (T : Txt K mg) (hT : ∀ p ∈ cts tf K, LamX.TabB base mg p.1 p.2) : FnOk P w K mg base CX0 11 (He.fAd K ("_law_behind", none)) T.fd_l_behind ["_law_a", "_law_x"] (fun vs H Q E => spBehind K vs H Q E ∨ spBehindN K vs H Q E) := fnok_or (ok_l_behindO T hT) (ok_l_behindN T hT)
theorem ok_l_ahead (T : Txt K mg) (hT : ∀ p ∈ cts tf K, LamX.TabB base mg p.1 p.2) : FnOk P w K mg base CX0 11 (He.fAd K ("_law_ahead", none)) T.fd_l_ahead ["_law_a", "_law_x"] (fun vs H Q E => spAhead K vs H Q E ∨ spAheadN K vs H Q E) := fnok_or (ok_l_aheadO T hT) (ok_l_aheadN T hT)
theorem odd_ask {H0 H : Hp} {S : List Addr} {l : Led} {st c : Addr} {ns : List Int} {Q : VK} {E : XK} (s : Stt H0 S l H) (sb : List.Sublist (dled st c ns) l) (hn : ns.length ≤ 63) (hs : st ∈ S ∨ H0 st = none)
    (k : ∀ v H', OddV H H' v → Kp [st] H H' → Stt H0 S l H' → Q v H') : spOdd ([.ref st] ++ []) H Q E :=
  ⟨st, c, ns, rfl, s.base sb, hn, fun v H' a q => k v H' a q.keep (s.after1 (f := DrS c) (sb.subset (by simp)) q.keep hs (q.pick (by walk_at "mem")))⟩
theorem tabs_kp1 {H H' : Hp} {st : Addr} {xs : List V} (t : LamX.Tabs (TL K) H) (k : Kp [st] H H') (e : H st = some (.lst xs)) : LamX.Tabs (TL K) H' := fun q hq => by
  obtain ⟨ps, h1, h2, h3⟩ := t q hq
  have kk : ∀ {b o}, b ≠ st → H b = some o → H' b = some o := fun hb e' => k.get (by simp [hb]) e'
  refine ⟨ps, kk (fun z => by rw [z, e] at h1; cases h1) h1, h2, fun pos cv hc => ?_⟩
  obtain ⟨c, e1, e2⟩ := h3 pos cv hc
  refine ⟨c, e1, kk (fun z => ?_) e2⟩
  rw [z, e] at e2
  have := Option.some.inj e2
  unfold LamX.CodeO at this
  cases this
/-- what was drawn, kept as plain facts of the heap -/
structure OddX (H : Hp) (v : V) : Prop where
  oth : IsOth v H
  sm : Sm H 1 v v
theorem OddX.kp {H H' : Hp} {v : V} (k : Kp [] H H') (h : OddX H v) : OddX H' v := ⟨isOth_kp k h.oth, h.sm.kp k⟩
theorem sm_ints {H : Hp} (xs : List Int) (i : Nat) (x y : V) (e1 : (xs.map V.int)[i]? = some x) (e2 : (xs.map V.int)[i]? = some y) : Sm H 0 x y := by
  have e := Option.some.inj (e1.symm.trans e2)
  subst e
  obtain ⟨n, _, rfl⟩ := List.mem_map.mp (List.mem_of_getElem? e1)
  exact .int _ _
theorem OddV.x {H0 H G : Hp} {v : V} (h : OddV H0 H v) (k : ∀ b o, H0 b = none → H b = some o → (∀ ps, o ≠ .tbl ps) → G b = some o) : OddX G v := by
  cases h with
  | non => exact ⟨.inl rfl, .non _⟩
  | bl b => exact ⟨.inr (.inl ⟨b, rfl⟩), .bl _ b⟩
  | str z => exact ⟨.inr (.inr (.inl ⟨z, rfl⟩)), .str _ z⟩
  | lst xs n e hl =>
    have g := k _ _ n e (fun ps q => by cases q)
    exact ⟨.inr (.inr (.inr (.inl ⟨_, _, rfl, g⟩))), .lst g g rfl (by rw [List.length_map]; omega) (sm_ints xs)⟩
  | tup xs n e hl =>
    have g := k _ _ n e (fun ps q => by cases q)
    exact ⟨.inr (.inr (.inr (.inr (.inl ⟨_, _, rfl, g⟩)))), .tup g g rfl (by rw [List.length_map]; omega) (sm_ints xs)⟩
  | dct kvs n e nd f =>
    have g := k _ _ n e (fun ps q => by cases q)
    exact ⟨.inr (.inr (.inr (.inr (.inr ⟨_, _, rfl, g⟩)))), .dct _ g nd f⟩
theorem drs_nt {c : Addr} : ∀ ps, ¬ DrS c (.tbl ps) := fun ps ⟨nth, val, fl, h⟩ => by cases h
theorem dled_nt {st c : Addr} {ns : List Int} : NoTl (dled st c ns) := noTl_cons drs_nt (noTl_cons (fun ps h => by cases h) noTl_nil)
theorem nO_one {x y : Int} (hy : 0 < y) (hg : Int.gcd x y = 1) : nO x y = x := by
  unfold nO
  rw [if_neg (by omega), hg]
  exact Int.ediv_one x
theorem nU_one {x y : Int} (hy : 0 < y) (hg : Int.gcd x y = 1) : nU x y = y := by
  unfold nU
  rw [if_neg (by omega), hg]
  exact Int.ediv_one y
theorem repN {H0 H : Hp} {S : List Addr} {l : Led} {p : Addr} {v : V} {n : Int} {Q : VK} (st : Stt H0 S l H) (m : (p, Is (.lst [v])) ∈ l) (h0 : 0 ≤ n ∧ n ≤ 1000) (k : ∀ r H1, H0 r = none → Stt H0 S ((r, Is (.lst (List.replicate n.toNat v))) :: l) H1 → Q (.ref r) H1) : rRep (.ref p) (.int n) H Q := by
  have e : (List.replicate n.toNat [v]).flatten = List.replicate n.toNat v := by
    induction n.toNat with
    | zero => rfl
    | succ k ih => rw [List.replicate_succ, List.flatten_cons, ih, List.replicate_succ]; rfl
  have hz : [v].length * n.toNat ≤ sizeLine := by
    rw [List.length_singleton, Nat.one_mul]
    exact Nat.le_trans (show n.toNat ≤ 1000 by omega) (by decide)
  refine ⟨p, n, [v], rfl, rfl, st.get m, by omega, by omega, hz, fun r hr => ?_⟩
  rw [e]
  exact k r _ (st.none hr) (st.new hr _)
/-- two lists that are the same, item by item -/
inductive S2 (H : Hp) (n : Nat) : List V → List V → Prop where
  | nil : S2 H n [] []
  | cons {x y : V} {xs ys : List V} (h : Sm H n x y) (r : S2 H n xs ys) : S2 H n (x :: xs) (y :: ys)
theorem S2.len {H : Hp} {n : Nat} {xs ys : List V} (h : S2 H n xs ys) : xs.length = ys.length := by
  induction h with
  | nil => rfl
  | cons _ _ ih => simp [ih]
theorem S2.at_ {H : Hp} {n : Nat} {xs ys : List V} (h : S2 H n xs ys) : ∀ (i : Nat) x y, xs[i]? = some x → ys[i]? = some y → Sm H n x y := by
  induction h with
  | nil => intro i x y e _; simp at e
  | cons h r ih =>
    intro i x y e1 e2
    cases i with
    | zero =>
      simp at e1 e2
      subst e1 e2
      exact h
    | succ i =>
      rw [List.getElem?_cons_succ] at e1 e2
      exact ih i x y e1 e2
theorem sm_list {H : Hp} {n : Nat} {a b : Addr} {xs ys : List V} (h1 : H a = some (.lst xs)) (h2 : H b = some (.lst ys)) (hz : xs.length ≤ 1000) (h : S2 H n xs ys) : Sm H (n + 1) (.ref a) (.ref b) := .lst h1 h2 h.len hz h.at_
theorem sm_tup2 {H : Hp} {n : Nat} {a b : Addr} {xs ys : List V} (h1 : H a = some (.tup xs)) (h2 : H b = some (.tup ys)) (hz : xs.length ≤ 1000) (h : S2 H n xs ys) : Sm H (n + 1) (.ref a) (.ref b) := .tup h1 h2 h.len hz h.at_
theorem sm_part {H : Hp} {a b : Addr} {w : V} (h1 : H a = some (.tup [.str "part", w])) (h2 : H b = some (.tup [.str "part", w])) (h : Sm H 1 w w) : Sm H 2 (.ref a) (.ref b) := sm_tup2 h1 h2 (by simp) (.cons (.str _ _) (.cons h .nil))
theorem s2_rep {H : Hp} {n : Nat} {y : V} : ∀ {xs : List V}, (∀ x ∈ xs, Sm H n x y) → S2 H n xs (List.replicate xs.length y)
  | [], _ => .nil
  | x :: xs, h => .cons (h x List.mem_cons_self) (s2_rep fun z m => h z (List.mem_cons_of_mem _ m))
theorem same_ask {H0 H : Hp} {l : Led} {n : Nat} {x y : V} {Q : VK} {E : XK} (s : Stt H0 [] l H) (m : Sm H n x y) (k : ∀ H', Stt H0 [] l H' → Q (.bl true) H') : spSame n ([x, y] ++ []) H Q E :=
  ⟨x, y, rfl, m, fun H' kp => k H' (s.after0 kp)⟩
theorem kp_nt {Hb H : Hp} (nT : NoT Hb) (k : Kp [] Hb H) : Kp [] Hb (nt H) := fun b o e => .inl (nt_of (k.get List.not_mem_nil e) fun ps q => nT b ps (q ▸ e))
/-- what the operators with x ahead are due -/
def AhL (H : Hp) (x : V) (xs : List V) : Prop := xs.length = 9 ∧ ∀ k y, xs[k]? = some y → ∃ t, y = .ref t ∧ H t = some (.tup (ahd x k))
theorem ahL_no {H : Hp} {x : V} {f : Addr} (hx : isS x = false) (h : H f = some (.tup [.str "part", x])) : AhL H x (List.replicate (Int.toNat 9) (.ref f)) := ⟨rfl, fun k y e => by
  have m := List.mem_of_getElem? e
  rw [(List.mem_replicate.mp m).2]
  refine ⟨f, rfl, ?_⟩
  unfold ahd
  rw [if_neg (fun z => by rw [hx] at z; cases z.1)]
  exact h⟩
theorem ahL_str {H : Hp} {z : Str} {f d : Addr} (h : H f = some (.tup [.str "part", .str z])) (hg : H d = some (.tup [.str "goes"])) : AhL H (.str z) ((List.replicate (Int.toNat 9) (V.ref f)).set 4 (.ref d)) := ⟨rfl, fun k y e => by
  rw [List.getElem?_set] at e
  split at e
  · rename_i hk
    subst hk
    rw [if_pos (by rw [List.length_replicate]; decide)] at e
    cases e
    refine ⟨d, rfl, ?_⟩
    unfold ahd
    rw [if_pos ⟨rfl, rfl⟩]
    exact hg
  · rename_i hk
    have m := List.mem_of_getElem? e
    rw [(List.mem_replicate.mp m).2]
    refine ⟨f, rfl, ?_⟩
    unfold ahd
    rw [if_neg (fun z => hk z.2.symm)]
    exact h⟩
theorem AhL.kp {H H' : Hp} {x : V} {xs : List V} (k : Kp [] H H') (h : AhL H x xs) : AhL H' x xs := ⟨h.1, fun i y e => by
  obtain ⟨t, rfl, ht⟩ := h.2 i y e
  exact ⟨t, rfl, k.get List.not_mem_nil ht⟩⟩
theorem ahd_sm {H : Hp} {x : V} {k : Nat} {a b : Addr} (h1 : H a = some (.tup (ahd x k))) (h2 : H b = some (.tup (ahd x k))) (h : Sm H 1 x x) : Sm H 2 (.ref a) (.ref b) := by
  unfold ahd at h1 h2
  split at h1
  · rename_i c
    rw [if_pos c] at h2
    exact sm_tup2 h1 h2 (by simp) (.cons (.str _ _) .nil)
  · rename_i c
    rw [if_neg c] at h2
    exact sm_part h1 h2 h
theorem dpAll_rep {H : Hp} {d : PyData} : ∀ {xs : List V}, (∀ x ∈ xs, Dp K H x d) → DpAll K H xs (List.replicate xs.length d)
  | [], _ => .nil
  | x :: xs, h => .cons (h x List.mem_cons_self) (dpAll_rep fun z m => h z (List.mem_cons_of_mem _ m))
theorem Kp.nt {H H' : Hp} (k : Kp [] H H') : Kp [] (nt H) (nt H') := fun b o e => .inl (nt_of (k.get List.not_mem_nil (nt_to e).1) (nt_to e).2)
/-- behind draws -/
theorem StT.draw {Hb H H' : Hp} {st c : Addr} {ns : List Int} {l' : Led} (s : StT K Hb (dled st c ns) H) (hst : Hb st = none) (q : Stt H [st] l' H') (sb : List.Sublist (dled st c ns) l') : StT K Hb (dled st c ns) H' where
  s := { keep := s.s.keep.trans q.keep fun x m => .inr (by rw [List.mem_singleton.mp m]; exact hst)
         nd := s.s.nd
         at_ := fun e m => q.at_ e (sb.subset m) }
  tb := by
    obtain ⟨o, h1, n, v, fl, rfl⟩ := s.s.pick (a := st) (f := DrS c) List.mem_cons_self
    exact tabs_kp1 s.tb q.keep h1
  nl := dled_nt
theorem isOth_nt {v : V} {H : Hp} (h : IsOth v H) : IsOth v (nt H) := by
  rcases h with rfl | ⟨b, rfl⟩ | ⟨x, rfl⟩ | ⟨a, xs, rfl, e⟩ | ⟨a, xs, rfl, e⟩ | ⟨a, xs, rfl, e⟩
  · exact .inl rfl
  · exact .inr (.inl ⟨b, rfl⟩)
  · exact .inr (.inr (.inl ⟨x, rfl⟩))
  · exact .inr (.inr (.inr (.inl ⟨a, xs, rfl, nt_of e fun ps q => by cases q⟩)))
  · exact .inr (.inr (.inr (.inr (.inl ⟨a, xs, rfl, nt_of e fun ps q => by cases q⟩))))
  · exact .inr (.inr (.inr (.inr (.inr ⟨a, xs, rfl, nt_of e fun ps q => by cases q⟩))))
theorem mkK_refused {H : Hp} {x y v : V} {vs zs : List V} {n m : Nat} {gV : List V → List V → List V} {Q' : VK} {E' : XK} (hn : vs.length = n) (hm : zs.length = m) (e : ∀ p, gV (.ref p :: vs) zs = [.ref p, x, y]) {a : Int} (hx : x = .int a) (hy : y = .int 0) (hv : v = y) (hE : ∀ cls d H', XP K v H cls d H' → E' cls d H') : Rd.MakeN (He.ga K "Span") n m (spInitC K) gV E' vs zs H Q' := by
  refine ⟨hn, hm, fun p dx hp hdx ne => ?_⟩
  have hp' : upd H dx (HO.own p) p = none := by rw [upd_ne (Ne.symm ne)]; exact hp
  have k2 : Kp [] H (upd (upd H dx (.own p)) p (.ins (He.ga K "Span") dx [])) := (kp_new hdx).trans (kp_new hp') fun _ h => nomatch h
  exact .inr ⟨p, x, y, v, e p, .inr ⟨a, hx, .inr hy, hv⟩, fun cls d H' z => hE _ _ _ (z.kp k2)⟩
theorem ref1 {Hb H : Hp} {l : Led} {x : V} {Q' : VK} {E' : XK} (s : StT K Hb l H) (ho : IsOth x Hb) (hE : ∀ cls d H', XP K x H cls d H' → E' cls d H') : spRef1 K ([x] ++ []) H Q' E' := ⟨x, rfl, isOth_kp s.s.keep ho, hE⟩
local macro_rules | `(tactic| walk_at "ask") => `(tactic| first
  | ((with_reducible refine' StT.lst ?v1 ?v2 ?_); (case v1 => assumption); (case v2 => simp only [List.length_cons, List.length_nil]; decide); intro _ _ _ _)
  | ((with_reducible refine' StT.bm ?v1 ?v2 ?_); (case v1 => assumption); (case v2 => walk_at "mem"))
  | ((with_reducible refine' StT.app ?v1 ?v2 ?v3 ?v4 ?v5 ?_); (case v1 => assumption); (case v2 => walk_at "mem"); (case v3 => simp only [List.length_cons, List.length_nil, List.length_append]; omega); (case v4 => walk_at "put"); (case v5 => assumption); intro _ _))
theorem ok_law (T : Txt K mg) (hT : ∀ p ∈ cts tf K, LamX.TabB base mg p.1 p.2) : FnOk P w K mg base CX0 13 (He.fAd K ("law", none)) T.fd_law ["_law_script"] (spLaw K) := by
  refine okC (p := ("law", none)) T.F_law sc_law (fun vs H Q E h => ?_) (fun A outer s H vs Q E hr h => ?_)
  · obtain ⟨a, ns, rfl, _⟩ := h
    rfl
  · obtain ⟨a, ns, rfl, hS, hl, tb, k⟩ := h
    refine ⟨_, PSs.nox (pss_cons (ps_asg (pe_call (ok_l_fresh T) (hr.mono (by decide)) rfl T.g_l_fresh T.F_l_fresh.kp T.b_l_fresh .nil pass0 (pa_cons (pv 0) pa_nil)) (pg_name (i := 1) sc_law.nd rfl (by first | exact Or.inl rfl | exact Or.inr rfl)))
  (pss_cons (ps_for PassesOwn.never rfl (pi_range1 rfl T.n_range (pa_cons pe_int pa_nil)) (pg_name (i := 2) sc_law.nd rfl (by first | exact Or.inl rfl | exact Or.inr rfl))
   (pss_cons (ps_asg (pe_tup (pa_cons (pe_call (ok_l_fraction T) (hr.mono (by decide)) rfl T.g_l_fraction T.F_l_fraction.kp T.b_l_fraction .nil pass0 (pa_cons (pv 1) pa_nil)) (pa_cons (pe_call (ok_l_odd T) (hr.mono (by decide)) rfl T.g_l_odd T.F_l_odd.kp T.b_l_odd .nil pass0 (pa_cons (pv 1) pa_nil)) (pa_cons (pe_call (ok_l_odd T) (hr.mono (by decide)) rfl T.g_l_odd T.F_l_odd.kp T.b_l_odd .nil pass0 (pa_cons (pv 1) pa_nil)) pa_nil)))) (pg_tup (by rfl) (pgs_cons (pg_name (i := 3) sc_law.nd rfl (by first | exact Or.inl rfl | exact Or.inr rfl)) (pgs_cons (pg_name (i := 4) sc_law.nd rfl (by first | exact Or.inl rfl | exact Or.inr rfl)) (pgs_cons (pg_name (i := 5) sc_law.nd rfl (by first | exact Or.inl rfl | exact Or.inr rfl)) pgs_nil)))))
  (C8.pss_cut (ps_asg (pe_makeX T.k_Span (ok_Span_init T) (hr.mono (by decide)) rfl T.g_Span T.b_Span_init2 pass0 (pa_cons (pe_ix ix_tup (pv 3) pe_int (fun _ _ => rfl)) (pa_cons (pe_ix ix_tup (pv 3) pe_int (fun _ _ => rfl)) pa_nil))) (pg_name (i := 6) sc_law.nd rfl (by first | exact Or.inl rfl | exact Or.inr rfl)))
  (pss_cons (ps_asg (pe_lst (pa_cons (pe_tried (k := 8) T rfl (hT _ (List.mem_map.mpr ⟨("law", none), by decide, rfl⟩)) rfl (tl_mem (d := ("law", none)) (by decide)) (tl_uniq T (d := ("law", none)) (by decide)) (hr.mono (by decide)) (LamX.lamS_by (show LamX.lamSB (defScope s_law) _ = true by decide +kernel)) rfl (fun _ _ _ _ _ => rfl) (fun A outer s H E f c' hr2 => (by exact pe_makeX T.k_Span (ok_Span_initC T) (hr2.mono (by decide)) rfl T.g_Span T.b_Span_init2 (passes_call (takes_of rfl rfl rfl rfl) (fun _ _ _ _ h => h)) (pa_cons (pv 4) (pa_cons (pv 5) pa_nil))))) pa_nil)) (pg_name (i := 7) sc_law.nd rfl (by first | exact Or.inl rfl | exact Or.inr rfl)))
  (pss_cons (ps_expr (pe_bm PySem.F.plainAttrs_list PySem.F.slot_list_append PySem.F.type_list_append mt_append (pv 7) (pa_cons (pe_tried (k := 8) T rfl (hT _ (List.mem_map.mpr ⟨("law", none), by decide, rfl⟩)) rfl (tl_mem (d := ("law", none)) (by decide)) (tl_uniq T (d := ("law", none)) (by decide)) (hr.mono (by decide)) (LamX.lamS_by (show LamX.lamSB (defScope s_law) _ = true by decide +kernel)) rfl (fun _ _ _ _ _ => rfl) (fun A outer s H E f c' hr2 => (by exact pe_makeX T.k_Span (ok_Span_initC T) (hr2.mono (by decide)) rfl T.g_Span T.b_Span_init1 (passes_call (takes_of rfl rfl rfl rfl) (fun _ _ _ _ h => h)) (pa_cons (pv 4) pa_nil)))) pa_nil)))
  (pss_cons (ps_expr (pe_bm PySem.F.plainAttrs_list PySem.F.slot_list_append PySem.F.type_list_append mt_append (pv 7) (pa_cons (pe_tried (k := 8) T rfl (hT _ (List.mem_map.mpr ⟨("law", none), by decide, rfl⟩)) rfl (tl_mem (d := ("law", none)) (by decide)) (tl_uniq T (d := ("law", none)) (by decide)) (hr.mono (by decide)) (LamX.lamS_by (show LamX.lamSB (defScope s_law) _ = true by decide +kernel)) rfl (fun _ _ _ _ _ => rfl) (fun A outer s H E f c' hr2 => (by exact pe_makeX T.k_Span (ok_Span_initC T) (hr2.mono (by decide)) rfl T.g_Span T.b_Span_init2 (passes_call (takes_of rfl rfl rfl rfl) (fun _ _ _ _ h => h)) (pa_cons (pe_ix (ix_K (K := K) (r := fun K1 => rIxT K1) rfl ix_tup) (pv 3) pe_int (fun _ _ => rfl)) (pa_cons (pv 5) pa_nil))))) pa_nil)))
  (pss_cons (ps_expr (pe_bm PySem.F.plainAttrs_list PySem.F.slot_list_append PySem.F.type_list_append mt_append (pv 7) (pa_cons (pe_tried (k := 8) T rfl (hT _ (List.mem_map.mpr ⟨("law", none), by decide, rfl⟩)) rfl (tl_mem (d := ("law", none)) (by decide)) (tl_uniq T (d := ("law", none)) (by decide)) (hr.mono (by decide)) (LamX.lamS_by (show LamX.lamSB (defScope s_law) _ = true by decide +kernel)) rfl (fun _ _ _ _ _ => rfl) (fun A outer s H E f c' hr2 => (by exact pe_makeK0X T.k_Span (ok_Span_initC T) (hr2.mono (by decide)) rfl T.g_Span T.kb_Span_init_under_over (passes_call (takes_of rfl rfl rfl rfl) (fun _ _ _ _ h => h)) (pk_cons pe_int (pk_cons (pe_ix (ix_K (K := K) (r := fun K1 => rIxT K1) rfl ix_tup) (pv 3) pe_int (fun _ _ => rfl)) pk_nil))))) pa_nil)))
  (pss_cons (ps_expr (pe_bm PySem.F.plainAttrs_list PySem.F.slot_list_append PySem.F.type_list_append mt_append (pv 7) (pa_cons (pe_tried (k := 8) T rfl (hT _ (List.mem_map.mpr ⟨("law", none), by decide, rfl⟩)) rfl (tl_mem (d := ("law", none)) (by decide)) (tl_uniq T (d := ("law", none)) (by decide)) (hr.mono (by decide)) (LamX.lamS_by (show LamX.lamSB (defScope s_law) _ = true by decide +kernel)) rfl (fun _ _ _ _ _ => rfl) (fun A outer s H E f c' hr2 => (by exact pe_call (ok_flooredR T) (hr2.mono (by decide)) rfl T.g_floored T.F_floored.kp T.b_floored .nil (passes_call (takes_of rfl rfl rfl rfl) (fun _ _ _ _ h => h)) (pa_cons (pv 4) pa_nil)))) pa_nil)))
  (C8.pss_cut (ps_expr (pe_bm PySem.F.plainAttrs_list PySem.F.slot_list_append PySem.F.type_list_append mt_append (pv 7) (pa_cons (pe_tried (k := 8) T rfl (hT _ (List.mem_map.mpr ⟨("law", none), by decide, rfl⟩)) rfl (tl_mem (d := ("law", none)) (by decide)) (tl_uniq T (d := ("law", none)) (by decide)) (hr.mono (by decide)) (LamX.lamS_by (show LamX.lamSB (defScope s_law) _ = true by decide +kernel)) rfl (fun _ _ _ _ _ => rfl) (fun A outer s H E f c' hr2 => (by exact pe_call (ok_plainR T) (hr2.mono (by decide)) rfl T.g_plain T.F_plain.kp T.b_plain .nil (passes_call (takes_of rfl rfl rfl rfl) (fun _ _ _ _ h => h)) (pa_cons (pv 4) pa_nil)))) pa_nil)))
  (pss_cons (ps_asg (pe_op op_cat (pe_op op_rep (pe_lst (pa_cons (pe_tup (pa_cons pe_str (pa_cons (pv 4) pa_nil))) pa_nil)) pe_int) (pe_lst (pa_cons (pe_tup (pa_cons pe_str (pa_cons (pv 5) pa_nil))) (pa_cons (pe_tup (pa_cons pe_str (pa_cons pe_int pa_nil))) (pa_cons (pe_tup (pa_cons pe_str (pa_cons (pv 4) pa_nil))) (pa_cons (pe_tup (pa_cons pe_str (pa_cons (pv 4) pa_nil))) pa_nil)))))) (pg_name (i := 8) sc_law.nd rfl (by first | exact Or.inl rfl | exact Or.inr rfl)))
  (C8.pss_cut (ps_if (PW.pt (pw_or (pt_not (pt_val (pe_call (ok_l_same T 3 (by decide)) (hr.mono (by decide)) rfl T.g_l_same T.F_l_same.kp T.b_l_same .nil pass0 (pa_cons (pv 7) (pa_cons (pv 8) pa_nil))))) (pw_or1 (pt_not (pt_val (pe_call (ok_l_same T 3 (by decide)) (hr.mono (by decide)) rfl T.g_l_same T.F_l_same.kp T.b_l_same .nil pass0 (pa_cons (pe_call (ok_l_behind T hT) (hr.mono (by decide)) rfl T.g_l_behind T.F_l_behind.kp T.b_l_behind .nil pass0 (pa_cons (pv 6) (pa_cons (pv 4) pa_nil))) (pa_cons (pe_op op_rep (pe_lst (pa_cons (pe_tup (pa_cons pe_str (pa_cons (pv 4) pa_nil))) pa_nil)) pe_int) pa_nil)))))))) (pss_one (ps_ret pe_bl))
   pss_nil)
  (pss_cons (ps_asg (pe_op op_rep (pe_lst (pa_cons (pe_tup (pa_cons pe_str (pa_cons (pv 4) pa_nil))) pa_nil)) pe_int) (pg_name (i := 8) sc_law.nd rfl (by first | exact Or.inl rfl | exact Or.inr rfl)))
  (C8.pss_cut (ps_if (pt_val (pe_callB call_isi (by rfl) T.n_isinstance (by decide +kernel) (pa_cons (pv 4) (pa_cons (pe_bltn (v := .ty "str") (by rfl) T.n_str (by decide +kernel) (show RelV (.ty "str") (.type "str") from rfl)) pa_nil)))) (pss_one (ps_asg (pe_tup (pa_cons pe_str pa_nil)) (pg_sub (pv 8) pe_int set_list)))
   pss_nil)
  (C8.pss_cut (ps_if (pt_not (pt_val (pe_call (ok_l_same T 3 (by decide)) (hr.mono (by decide)) rfl T.g_l_same T.F_l_same.kp T.b_l_same .nil pass0 (pa_cons (pe_call (ok_l_ahead T hT) (hr.mono (by decide)) rfl T.g_l_ahead T.F_l_ahead.kp T.b_l_ahead .nil pass0 (pa_cons (pv 6) (pa_cons (pv 4) pa_nil))) (pa_cons (pv 8) pa_nil))))) (pss_one (ps_ret pe_bl))
   pss_nil)
  (C8.pss_cut (ps_if (pt_not (pt_val (pe_call (ok_l_is_refused T hT) (hr.mono (by decide)) rfl T.g_l_is_refused T.F_l_is_refused.kp T.b_l_is_refused .nil pass0 (pa_cons (pv 6) pa_nil)))) (pss_one (ps_ret pe_bl))
   pss_nil)
  (pss_one (ps_if (PW.pt (pw_and (pt_cmpR op_ne (pe_ix ix_tup (pv 3) pe_int (fun _ _ => rfl)) pe_int (nomark _)) (pw_and1 (pt_cmpR (op_neD hr.units) (pe_op op_cat (pe_call (ok_l_ahead T hT) (hr.mono (by decide)) rfl T.g_l_ahead T.F_l_ahead.kp T.b_l_ahead .nil pass0 (pa_cons (pv 6) (pa_cons pe_int pa_nil))) (pe_call (ok_l_behind T hT) (hr.mono (by decide)) rfl T.g_l_behind T.F_l_behind.kp T.b_l_behind .nil pass0 (pa_cons (pv 6) (pa_cons pe_int pa_nil)))) (pe_op op_rep (pe_lst (pa_cons (pe_tup (pa_cons pe_str pa_nil)) pa_nil)) pe_int) (nomark _))))) (pss_one (ps_ret pe_bl))
   pss_nil)))))))))))))))))
  (pss_one (ps_ret pe_bl)))), ?_⟩
    walk_at "k"
    walk_at "rd"
    refine ⟨a, ns, rfl, hS, hl, fun st c ms H1 hst s1 hm => ?_⟩
    have nT : NoT (nt H) := nt_no
    have hst' : nt H st = none := by unfold nt; rw [hst]
    have s1' : StT K (nt H) (dled st c ms) H1 := ⟨stt_ntS s1, tabs_kp tb s1.keep, dled_nt⟩
    walk_at "rd"
    refine Rd.loop (walk_range (lo := 0) (n := Int.toNat 6)) (fun i σ H' => ∃ v2 v3 v4 v5 v6 v7 v8 : Option V, σ = [some (.ref a), some (.ref st), v2, v3, v4, v5, v6, v7, v8] ∧ StT K (nt H) (dled st c ms) H') ⟨_, _, _, _, _, _, _, rfl, s1'⟩ (fun _ _ _ _ _ => trivial) ?_ ?_
    · rintro i x σ H3 H2 hi ⟨v2, v3, v4, v5, v6, v7, v8, rfl, s2⟩ ⟨rfl, rfl⟩
      clear s1 s1'
      have s3 : Stt H2 [st] (dled st c ms) H2 := s2.s.base (List.Sublist.refl _)
      have st2 : H2 st ≠ none := by
        obtain ⟨o, h1, _⟩ := s2.s.pick (a := st) (f := DrS c) List.mem_cons_self
        rw [h1]
        exact fun q => nomatch q
      walk_at "rd"
      rename_i p x0 x1 H4 np hx s4
      refine odd_ask s4 (by walk_at "subl") hm (.inl (by walk_at "mem")) fun v H5 ov k5 s5 => ?_
      walk_at "rd"
      refine odd_ask s5 (by walk_at "subl") hm (.inl (by walk_at "mem")) fun u H6 ou k6 s6 => ?_
      have t6 : StT K (nt H) (dled st c ms) H6 := s2.draw hst' s6 (by walk_at "subl")
      have s6b : Stt H6 [] ((p, Is (.tup [.int x0, .int x1])) :: dled st c ms) H6 := s6.base (List.Sublist.refl _)
      have ne4 : H4 st ≠ none := fun q => st2 (Kp.none s4.keep q)
      have ne5 : H5 st ≠ none := fun q => ne4 (Kp.none k5 q)
      clear s3 s4 s5 s6
      walk_at "rd"
      rename_i r H7 nr s7
      refine Rd.cut (fun σ' H' => ∃ pa, σ' = [some (.ref a), some (.ref st), some (.int (0 + (i : Int))), some (.ref p), some v, some u, some (.ref pa), v7, v8] ∧ StT K (nt H) (dled st c ms) H' ∧ SqT K (nt H') p [.int x0, .int x1] ∧ IsNum K (nt H') (.ref pa) x0 x1 ∧ OddX (nt H') v ∧ OddX (nt H') u) ?_ ?_
      · have hx1 : x1 ≠ 0 := by omega
        have hx2 : x1.natAbs < 2 ^ 8000 := up hx.2.2.2 (by decide)
        clear s6b
        walk_at "rd"
        rename_i pa H8 npa s8
        rw [nO_one hx.1 hx.2.1, nU_one hx.1 hx.2.1] at s8
        refine ⟨pa, rfl, ⟨t6.s.after0 s8.keep, tabs_kp t6.tb s8.keep, dled_nt⟩, SqT.of (nt_of (s8.get (by walk_at "mem")) fun ps q => by cases q), ?_, ov.x fun b o e1 e2 e3 => ?_, ou.x fun b o e1 e2 e3 => ?_⟩
        · obtain ⟨o, o1, o2⟩ := s8.pick (a := pa) (f := SpanO K x0 x1) (by walk_at "mem")
          exact .inr ⟨pa, o, rfl, nt_of o1 fun ps q => span_nt ps (q ▸ o2), o2⟩
        · have hb : b ≠ st := fun q => ne4 (q ▸ e1)
          exact nt_of (s8.keep.get List.not_mem_nil (k6.get (by simp [hb]) e2)) e3
        · exact nt_of (s8.keep.get List.not_mem_nil e2) e3
      · rintro σ' H8 ⟨pa, rfl, t8, hp, hA, hv, hu⟩
        clear s6b s7
        have s0 : StT K (nt H8) [] H8 := ⟨stt_nt, t8.tb, noTl_nil⟩
        have nT8 : NoT (nt H8) := nt_no
        have lam : ∀ {H2 : Hp} {l : Led} {z : V}, StT K (nt H8) l H2 → OddX (nt H8) z → ∀ H', Kp [] H2 H' → ∃ sp, NoInt K H' z sp := fun s hz H' k => ⟨_, noInt_oth T (isOth_kp (s.s.keep.trans k fun _ h => .inl h) hz.oth)⟩
        walk_at "rd"
        refine lamP (v := v) nT8 s0 (fun H2 E' Q' s2 hE => ?_) fun t1 G1 n1 u1 => ?_
        · walk_at "rd"
          exact mk_refused rfl (.inl ⟨lam s2 hv, rfl⟩) hE
        walk_at "rd"
        rename_i q J1 nq w1
        clear u1
        refine lamP (v := v) nT8 w1 (fun H2 E' Q' s2 hE => ?_) fun t2 G2 n2 u2 => ?_
        · walk_at "rd"
          exact mk_refused rfl (.inl ⟨lam s2 hv, rfl⟩) hE
        walk_at "rd"
        rename_i J2 w2
        clear u2
        refine lamP (v := u) nT8 w2 (fun H2 E' Q' s2 hE => ?_) fun t3 G3 n3 u3 => ?_
        · have hp2 : SqT K H2 p [.int x0, .int x1] := s2.s.upT hp
          have sx : Stt H2 [] [] H2 := Stt.nil
          walk_at "rd"
          exact mk_refused rfl (.inr ⟨x0, rfl, lam s2 hu, rfl⟩) hE
        walk_at "rd"
        rename_i J3 w3
        clear u3
        refine lamP (v := .int 0) nT8 w3 (fun H2 E' Q' s2 hE => ?_) fun t4 G4 n4 u4 => ?_
        · have hp2 : SqT K H2 p [.int x0, .int x1] := s2.s.upT hp
          have sx : Stt H2 [] [] H2 := Stt.nil
          walk_at "rd"
          exact mkK_refused rfl rfl (fun _ => rfl) rfl rfl rfl hE
        walk_at "rd"
        rename_i J4 w4
        clear u4
        refine lamP (v := v) nT8 w4 (fun H2 E' Q' s2 hE => ?_) fun t5 G5 n5 u5 => ?_
        · walk_at "rd"
          exact ref1 s2 hv.oth hE
        walk_at "rd"
        rename_i J5 w5
        clear u5
        refine Rd.cut (fun σ' H' => ∃ t6 : Addr, σ' = [some (.ref a), some (.ref st), some (.int (0 + (i : Int))), some (.ref p), some v, some u, some (.ref pa), some (.ref q), v8] ∧ StT K (nt H8) [(t6, Is (.tup [.str "part", v])), (t5, Is (.tup [.str "part", v])), (t4, Is (.tup [.str "part", .int 0])), (t3, Is (.tup [.str "part", u])), (t2, Is (.tup [.str "part", v])), (q, Is (.lst [.ref t1, .ref t2, .ref t3, .ref t4, .ref t5, .ref t6])), (t1, Is (.tup [.str "part", v]))] H') ?_ ?_
        · walk_at "rd"
          refine lamP (v := v) nT8 w5 (fun H2 E' Q' s2 hE => ?_) fun t6 G6 n6 u6 => ?_
          · walk_at "rd"
            exact ref1 s2 hv.oth hE
          walk_at "rd"
          rename_i J6 w6
          clear u6
          exact ⟨_, rfl, w6⟩
        rintro σ' H9 ⟨t6, rfl, s9⟩
        clear w1 w2 w3 w4 w5
        have y0 : Stt H9 [] [(t6, Is (.tup [.str "part", v])), (t5, Is (.tup [.str "part", v])), (t4, Is (.tup [.str "part", .int 0])), (t3, Is (.tup [.str "part", u])), (t2, Is (.tup [.str "part", v])), (q, Is (.lst [.ref t1, .ref t2, .ref t3, .ref t4, .ref t5, .ref t6])), (t1, Is (.tup [.str "part", v]))] H9 := s9.s.base (List.Sublist.refl _)
        walk_at "rd"
        rename_i d1 I1 nd1 y1 d2 I2 nd2 y2
        refine repN y2 (by walk_at "mem") (by decide) fun d3 I3 nd3 y3 => ?_
        clear y0 y1 y2
        replace y3 : Stt H9 [] ((d3, Is (.lst [.ref d1, .ref d1])) :: _) I3 := y3
        walk_at "rd"
        rename_i e1 I4 ne1 y4 e2 I5 ne2 y5 e3 I6 ne3 y6 e4 I7 ne4 y7 e5 I8 ne5 y8 e6 I9 ne6 y9
        clear y3 y4 y5 y6 y7 y8
        replace y9 : Stt H9 [] ((e6, Is (.lst [.ref d1, .ref d1, .ref e1, .ref e2, .ref e3, .ref e4])) :: _) I9 := y9
        have hv9 : OddX I9 v := hv.kp (s9.s.keep.trans y9.keep fun _ h => .inl h)
        have hu9 : OddX I9 u := hu.kp (s9.s.keep.trans y9.keep fun _ h => .inl h)
        refine Rd.cut (fun σ' H' => ∃ v7 v8, σ' = [some (.ref a), some (.ref st), some (.int (0 + (i : Int))), some (.ref p), some v, some u, some (.ref pa), v7, v8] ∧ StT K (nt H8) [] H') ?_ ?_
        · walk_at "rd"
          refine same_ask (n := 3) y9 (sm_list (y9.get (a := q) (by walk_at "mem")) (y9.get (a := e6) (by walk_at "mem")) (by simp) (.cons (sm_part (y9.get (a := t1) (by walk_at "mem")) (y9.get (a := d1) (by walk_at "mem")) hv9.sm) (.cons (sm_part (y9.get (a := t2) (by walk_at "mem")) (y9.get (a := d1) (by walk_at "mem")) hv9.sm)
            (.cons (sm_part (y9.get (a := t3) (by walk_at "mem")) (y9.get (a := e1) (by walk_at "mem")) hu9.sm) (.cons (sm_part (y9.get (a := t4) (by walk_at "mem")) (y9.get (a := e2) (by walk_at "mem")) (.int _ _)) (.cons (sm_part (y9.get (a := t5) (by walk_at "mem")) (y9.get (a := e3) (by walk_at "mem")) hv9.sm) (.cons (sm_part (y9.get (a := t6) (by walk_at "mem")) (y9.get (a := e4) (by walk_at "mem")) hv9.sm) .nil))))))) fun Ia ya => ?_
          have ka : Kp [] (nt H8) Ia := s9.s.keep.trans ya.keep fun _ h => .inl h
          have tba := tabs_kp s9.tb ya.keep
          clear y9 ya
          walk_at "rd"
          refine .inl ⟨pa, x0, x1, v, rfl, hA.kp0 (kp_nt nT8 ka), isOth_kp (kp_nt nT8 ka) hv.oth, tba, fun r ts Ib nr yb tbb hlb hts => ?_⟩
          have kb : Kp [] (nt H8) Ib := (kp_nt nT8 ka).trans yb.keep fun _ h => .inl h
          have yc : Stt Ib [] [(r, Is (.lst (ts.map V.ref)))] Ib := yb.base (List.Sublist.refl _)
          clear yb
          walk_at "rd"
          rename_i f1 Ic nf1 yd f2 Id nf2 ye
          refine repN ye (by walk_at "mem") (by decide) fun f3 Ie nf3 yf => ?_
          clear yc yd ye
          have hve : OddX Ie v := hv.kp (kb.trans yf.keep fun _ h => .inl h)
          have hlm : (ts.map V.ref).length = 9 := by rw [List.length_map]; exact hlb
          have s2 : S2 Ie 2 (ts.map V.ref) (List.replicate (Int.toNat 9) (.ref f1)) := by
            have z : S2 Ie 2 (ts.map V.ref) (List.replicate (ts.map V.ref).length (.ref f1)) := s2_rep fun x m => by
              obtain ⟨t, mt, rfl⟩ := List.mem_map.mp m
              exact sm_part (yf.keep.get List.not_mem_nil (hts t mt).2) (yf.get (by walk_at "mem")) hve.sm
            rw [hlm] at z
            exact z
          walk_at "rd"
          refine same_ask (n := 3) yf (sm_list (yf.get (a := r) (by walk_at "mem")) (yf.get (a := f3) (by walk_at "mem")) (by omega) s2) fun If yg => ?_
          walk_at "rd"
          exact ⟨_, _, rfl, ⟨Stt.nil.after0 (kb.trans yg.keep fun _ h => .inl h) |>.sub (List.Sublist.refl _), tabs_kp tbb yg.keep, noTl_nil⟩⟩
        · clear y9
          rintro σ' Ja ⟨v7, v8, rfl, sa⟩
          have ya : Stt Ja [] [] Ja := Stt.nil
          walk_at "rd"
          rename_i f1 Jb nf1 yb f2 Jc nf2 yc
          refine repN yc (by walk_at "mem") (by decide) fun f3 Jd nf3 yd => ?_
          clear ya yb yc
          have hvd : OddX Jd v := hv.kp (sa.s.keep.trans yd.keep fun _ h => .inl h)
          have kd : Kp [] (nt H8) Jd := sa.s.keep.trans yd.keep fun _ h => nomatch h
          have tbd := tabs_kp sa.tb yd.keep
          replace yd : Stt Jd [] [(f3, Is (.lst (List.replicate (Int.toNat 9) (.ref f1)))), (f1, Is (.tup [.str "part", v]))] Jd := yd.base (by walk_at "subl")
          walk_at "rd"
          refine Rd.cut (fun σ' H' => ∃ xs : List V, σ' = [some (.ref a), some (.ref st), some (.int (0 + (i : Int))), some (.ref p), some v, some u, some (.ref pa), v7, some (.ref f3)] ∧ Kp [f3] Jd H' ∧ H' f3 = some (.lst xs) ∧ AhL H' v xs) ?_ ?_
          · cases hx : isS v with
            | true =>
              obtain ⟨z, rfl⟩ : ∃ z, v = .str z := by
                cases v with
                | str z => exact ⟨z, rfl⟩
                | _ => cases hx
              have ye : Stt Jd [f3] [(f3, Is (.lst (List.replicate (Int.toNat 9) (.ref f1)))), (f1, Is (.tup [.str "part", .str z]))] Jd := yd.base (List.Sublist.refl _)
              clear yd
              walk_at "rd"
              rename_i g1 Je ng1 yf Jf yg
              have h3 : Jf f3 = some (.lst ((List.replicate (Int.toNat 9) (V.ref f1)).set (Int.toNat 4) (V.ref g1))) := yg.get (by walk_at "mem")
              have hg : Jf g1 = some (.tup [.str "goes"]) := yg.get (by walk_at "mem")
              have hf : Jf f1 = some (.tup [.str "part", .str z]) := yg.get (by walk_at "mem")
              exact ⟨_, rfl, yg.keep, h3, ahL_str hf hg⟩
            | false =>
              obtain ⟨t, ty, kt⟩ := noStr hx hvd.oth
              walk_at "rd"
              exact ⟨_, rfl, Kp.refl _, yd.get (by walk_at "mem"), ahL_no hx (yd.get (by walk_at "mem"))⟩
          · rintro σ' Je ⟨xs, rfl, ke, he, hxs⟩
            have nf3' : nt H8 f3 = none := sa.s.none nf3
            have ke' : Kp [] (nt H8) Je := kd.trans ke fun x m => .inr (by rw [List.mem_singleton.mp m]; exact nf3')
            have tbe : LamX.Tabs (TL K) Je := tabs_kp1 tbd ke (yd.get (a := f3) (by walk_at "mem"))
            clear yd
            refine Rd.cut (fun σ' H' => ∃ v7 v8, σ' = [some (.ref a), some (.ref st), some (.int (0 + (i : Int))), some (.ref p), some v, some u, some (.ref pa), v7, v8] ∧ StT K (nt H8) [] H') ?_ ?_
            · walk_at "rd"
              refine .inl ⟨pa, x0, x1, v, rfl, hA.kp0 (kp_nt nT8 ke'), isOth_kp (kp_nt nT8 ke') hv.oth, tbe, fun r ts Jf nr yb tbb hlb hts => ?_⟩
              have kf : Kp [] (nt Je) Jf := yb.keep
              have hf3 : Jf f3 = some (.lst xs) := kf.get List.not_mem_nil (nt_of he fun ps q => by cases q)
              have hr' : Jf r = some (.lst (ts.map V.ref)) := yb.get (by walk_at "mem")
              have hvf : OddX Jf v := hv.kp ((kp_nt nT8 ke').trans kf fun _ h => nomatch h)
              have yc : Stt Jf [] [] Jf := Stt.nil
              clear yb
              walk_at "rd"
              refine same_ask (n := 3) yc (.lst hr' hf3 (by rw [List.length_map, hxs.1, hlb]) (by rw [List.length_map]; omega) fun n x y e1 e2 => ?_) fun Jg yg => ?_
              · obtain ⟨t, mt, rfl⟩ : ∃ t, ts[n]? = some t ∧ x = .ref t := by
                  rw [List.getElem?_map] at e1
                  cases h : ts[n]? with
                  | none => rw [h] at e1; cases e1
                  | some t => rw [h] at e1; cases e1; exact ⟨t, rfl, rfl⟩
                obtain ⟨t', rfl, ht'⟩ := hxs.2 n y e2
                exact ahd_sm (hts n t mt).2 (kf.get List.not_mem_nil (nt_of ht' fun ps q => by cases q)) hvf.sm
              walk_at "rd"
              exact ⟨_, _, rfl, ⟨(Stt.nil.after0 (((kp_nt nT8 ke').trans kf fun _ h => nomatch h).trans yg.keep fun _ h => .inl h)), tabs_kp tbb yg.keep, noTl_nil⟩⟩
            · rintro σ' Jh ⟨v7, v8, rfl, sh⟩
              refine Rd.cut (fun σ' H' => ∃ v7 v8, σ' = [some (.ref a), some (.ref st), some (.int (0 + (i : Int))), some (.ref p), some v, some u, some (.ref pa), v7, v8] ∧ StT K (nt H8) [] H') ?_ ?_
              · walk_at "rd"
                refine ⟨pa, x0, x1, rfl, hA.kp0 (kp_nt nT8 sh.s.keep), sh.tb, fun H' s' tb' => ?_⟩
                walk_at "rd"
                exact ⟨_, _, rfl, ⟨Stt.nil.after0 ((kp_nt nT8 sh.s.keep).trans s'.keep fun _ h => nomatch h), tb', noTl_nil⟩⟩
              · rintro σ' Ji ⟨v7, v8, rfl, si⟩
                have pi : SqT K Ji p [.int x0, .int x1] := si.s.upT hp
                have yi : Stt Ji [] [] Ji := Stt.nil
                have fin : ∀ H', StT K (nt H8) [] H' → StT K (nt H) (dled st c ms) H' := fun H' s => StT.reb nT t8 s
                walk_at "rd"
                refine Rd.brD (fun _ => ?_) fun ex => ?_
                · walk_at "rd"
                  exact ⟨_, _, _, _, _, _, _, rfl, fin _ si⟩
                · clear yi
                  have x0n : x0 ≠ 0 := fun z => ex (by rw [z])
                  have b1 : x0.natAbs < 2 ^ 200 := up hx.2.2.1 (by decide)
                  have b2 : x1.natAbs < 2 ^ 200 := up hx.2.2.2 (by decide)
                  have x1n : x1 ≠ 0 := by omega
                  walk_at "rd"
                  refine .inr ⟨pa, x0, x1, 7, rfl, hA.kp0 (kp_nt nT8 si.s.keep), ⟨x1n, x0n, b1, b2, by decide⟩, si.tb, fun r1 ts Jj nr1 yj tbj hlj hts => ?_⟩
                  have kj : Kp [] (nt H8) Jj := (kp_nt nT8 si.s.keep).trans yj.keep fun _ h => nomatch h
                  have hr1 : Jj r1 = some (.lst (ts.map V.ref)) := yj.get (by walk_at "mem")
                  clear yj
                  walk_at "rd"
                  refine .inr ⟨pa, x0, x1, 7, rfl, hA.kp0 (kp_nt nT8 kj), ⟨x1n, by decide, b1, b2, by decide⟩, tbj, fun r2 us Jk nr2 yk tbk hlk hus => ?_⟩
                  have kk : Kp [] (nt H8) Jk := (kp_nt nT8 kj).trans yk.keep fun _ h => nomatch h
                  have hr1' : Jk r1 = some (.lst (ts.map V.ref)) := yk.keep.get List.not_mem_nil (nt_of hr1 fun ps q => by cases q)
                  have hr2 : Jk r2 = some (.lst (us.map V.ref)) := yk.get (by walk_at "mem")
                  have hall : ∀ x ∈ ts.map V.ref ++ us.map V.ref, ∃ t, x = .ref t ∧ Jk t = some (.tup [.str "goes"]) := fun x m => by
                    rcases List.mem_append.mp m with m | m
                    · obtain ⟨t, mt, rfl⟩ := List.mem_map.mp m
                      exact ⟨t, rfl, yk.keep.get List.not_mem_nil (nt_of (hts t mt).2 fun ps q => by cases q)⟩
                    · obtain ⟨t, mt, rfl⟩ := List.mem_map.mp m
                      exact ⟨t, rfl, (hus t mt).2⟩
                  have hlen : (ts.map V.ref ++ us.map V.ref).length = 18 := by rw [List.length_append, List.length_map, List.length_map, hlj, hlk]
                  have yl : Stt Jk [] [] Jk := Stt.nil
                  clear yk
                  walk_at "rd"
                  refine ⟨r1, r2, _, _, rfl, rfl, hr1', hr2, by rw [← List.length_append, hlen]; decide, fun r3 hr3 => ?_⟩
                  have ym := yl.new hr3 (.lst (ts.map V.ref ++ us.map V.ref))
                  clear yl
                  walk_at "rd"
                  rename_i g1 Jl ng1 yn g2 Jm ng2 yo
                  refine repN yo (by walk_at "mem") (by decide) fun g3 Jn ng3 yp => ?_
                  clear ym yn yo
                  have d1 : Dp K Jn (.ref r3) (.list (List.replicate 18 (.tuple [.str "goes"]))) := by
                    refine .lst (yp.sqL (xs := ts.map V.ref ++ us.map V.ref) (by walk_at "mem")) ?_
                    rw [← hlen]
                    refine dpAll_rep fun x m => ?_
                    obtain ⟨t, rfl, ht⟩ := hall x m
                    exact .tup (SqT.of (yp.keep.get List.not_mem_nil ht)) (.cons (.str _) .nil)
                  have d2 : Dp K Jn (.ref g3) (.list (List.replicate 18 (.tuple [.str "goes"]))) := by
                    refine .lst (yp.sqL (xs := List.replicate (Int.toNat 18) (.ref g1)) (by walk_at "mem")) ?_
                    rw [show (18 : Nat) = (List.replicate (Int.toNat 18) (V.ref g1)).length by rw [List.length_replicate]; decide]
                    refine dpAll_rep fun x m => ?_
                    rw [(List.mem_replicate.mp m).2]
                    exact .tup (SqT.of (yp.get (by walk_at "mem"))) (.cons (.str _) .nil)
                  refine neDr d1 d2 (by decide +kernel) (by decide +kernel) ?_
                  rw [show (!PyData.eqv (.list (List.replicate 18 (.tuple [.str "goes"]))) (.list (List.replicate 18 (.tuple [.str "goes"])))) = false by decide +kernel]
                  walk_at "rd"
                  exact ⟨_, _, _, _, _, _, _, rfl, fin _ ⟨Stt.nil.after0 (kk.trans yp.keep fun _ h => .inl h), tabs_kp tbk yp.keep, noTl_nil⟩⟩
    · rintro σ H2 ⟨v2, v3, v4, v5, v6, v7, v8, rfl, s2⟩
      walk_at "rd"
      exact k _
end

end
end Law
open PySem PySem.W PySem.Calls PyProof.Rows
set_option maxRecDepth 100000 in
set_option maxHeartbeats 0 in
theorem PySem.Challenge.cw_looptimes_k04_spans_refused_holds : PySem.Challenge.rw_looptimes_k04_spans_refused.Holds := by
  w_on; o_law
  refine HandSHeadRun.head_imp (r := OpenLaw.row PySem.Challenge.rw_looptimes_k04_spans_refused) (q := view (OpenLaw.row PySem.Challenge.rw_looptimes_k04_spans_refused).prog [0, 32]) (H := Law.hk) (ob := Law.ob) (M := 4000) (loose := Law.loose) (d := HandSHeadRun.topDef (OpenLaw.row PySem.Challenge.rw_looptimes_k04_spans_refused).prog 32) (kwd := []) Law.ob_eq
    Law.run (by kernel_rfl) (by kernel_rfl) (by kernel_rfl) (by rfl) (by first | assumption | decide +kernel) (by decide +kernel) ⟨rfl, rfl, rfl, rfl, rfl, by decide +kernel⟩ ?hw ?hc
  case hw => w_witness2
  case hc =>
    refine LamX.walk_ofTsE (l := PySem.Challenge.rw_looptimes_k04_spans_refused) (n := 63) (k := 13) (x := "_law_script") (CX := fun _ => L2.CX0) rfl (by decide) (by kernel_rfl) ⟨rfl, by decide, by decide⟩ ?F (fun _ _ _ _ _ z => z)
    intro w mg fa h Y G hmg0
    obtain ⟨K, KX, c⟩ := Y
    have hmg : mg ("law" : PySem.Str) = some (.ref fa) := by
      have e : (HandSHeadRun.topDef (OpenLaw.row PySem.Challenge.rw_looptimes_k04_spans_refused).prog 32).name = ("law" : PySem.Str) := by kernel_rfl
      rw [← e]
      exact hmg0
    obtain ⟨T⟩ := Law.txt_of KX G (Lt.saysM_of c)
    have ea := hmg.symm.trans T.g_law
    cases ea
    have b : ∀ (s : Shared) (v : Value), BindsTo s T.fd_law ⟨[v], []⟩ [("_law_script", v)] := fun s v => L2.FunD.bindsA (ps := ["_law_script"]) T.F_law (fun _ _ _ _ _ _ us hl => match us, hl with | [_], _ => rfl) s [v] rfl
    exact ⟨K, KX, T.fd_law, Lt.cts Law.tf K, Law.spLaw K, Lt.cts_empty c, Lt.cts_out c, Lt.cts_hd KX c, b, fun H a ns hl hi hT hS => ⟨a, ns, rfl, hS, hl, Law.tabs_nil hT, fun _ => rfl⟩, fun base _ _ hT => Law.ok_law T hT⟩
