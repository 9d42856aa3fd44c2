import PyProof.Rows.All
import Wide.All
import OpenK.AllK
import Wide.FinOn
import KE.KStateDown
import KE.GoesMore
import KE.KOpsOwn
import HandS.ForMost
import HandS.Exc
import HandS.Defaults
import HandS.MakeKw
import HandS.Wide
import HandS.Walk
import HandS.Codes
import HandS.IsInst
import HandS.FStr
import HandS.Zip
import HandS.Style
import HandS.OwnEq
import HandS.SlotsOwn
import HandS.MakeKwOnly
import HandS.Gcd
import HandS.Head0
import HandS.Head1
import HandS.Head2
import HandS.Head3
import HandS.HeadEnd
import HandS.HeadHook1
import HandS.HeadHook2
import HandS.ExcOwn
import HandS.ExcInit
import HandS.ExcField
import HandS.ExcIs
import HandS.More
import HandS.ClsMeth
import PySem.Challenge.RW_looptimes_k01_errors_made
set_option Elab.async false
set_option linter.all false
set_option maxRecDepth 100000
set_option maxHeartbeats 2000000
set_option exponentiation.threshold 20000
set_option Elab.async false
set_option linter.all false
set_option maxRecDepth 100000
set_option maxHeartbeats 2000000
namespace Lt
open PySem PySem.Spec PyProof.Rows L2
/-! ### enumerate(a tuple) -/
section
open AutoSeq1 (wpAny_loadPart')
theorem meets_enumerate_newT (l : Addr) (items : Array Value) (n : Nat) (dct : Option Addr) (sl : Array (Option Value)) :
    Meets (Builtin.«enumerate.__new__» ⟨[.type "enumerate", .ref l], []⟩) (fun _ R s => s.heap.get? l = some { cls := .type "tuple", dict := dct, data := .seq items n, slots := sl } ∧
      R (.ok (.ret (.ref (s.heap.push { cls := .type "tuple_iterator", data := .fields #[.ref l, .int 0 0] }).objs.size)))
        { s with heap := (s.heap.push { cls := .type "tuple_iterator", data := .fields #[.ref l, .int 0 0] }).push { cls := .type "enumerate", data := .fields #[.none, .bool false, .ref s.heap.objs.size, rawInt 0, .none, .none] } }) :=
  .of_wp fun prog w A R s h => by
    obtain ⟨hp, g, d, tk, os⟩ := s; obtain ⟨hl, h⟩ := h
    have hsub := sub_enumerate
    have hL : Heap.IsTuple (Shared.heap ⟨hp, g, d, tk, os⟩) l items := ⟨_, hl, rfl, n, rfl⟩
    wp_walk using wpAny_loadPart' hl
    refine wpAny_stack_any fun st => wpAny_pure ?_
    split
    · rename_i c _ _ _ _ _
      cases (c == Value.type "enumerate")
      · wp_walk using wpAny_loadPart' hl, wpAny_pyIter_tuple hL
        exact ⟨_, rfl, h⟩
      · wp_walk using wpAny_loadPart' hl, wpAny_pyIter_tuple hL
        exact ⟨_, rfl, h⟩
    · wp_walk using wpAny_loadPart' hl, wpAny_pyIter_tuple hL
      exact ⟨_, rfl, h⟩
variable {prog : Program} {w : World} {A : Around} {E : Value → Shared → Prop} {s : Shared}
theorem call_enumerate_tup {l : Addr} {items : Array Value} {Q : Value → Shared → Prop} (hL : s.heap.IsTuple l items)
    (h : ∀ h', IsEnum h' (s.heap.objs.size + 1) s.heap.objs.size 0 .none → h'.IsTupleIter s.heap.objs.size l 0 → h'.objs.size = s.heap.objs.size + 2 →
      (∀ b o, s.heap.get? b = some o → h'.get? b = some o) → Q (.ref (s.heap.objs.size + 1)) { s with heap := h' }) :
    wpAny (model prog w) A (call (.type "enumerate") [.ref l]) Q E s := by
  obtain ⟨⟨c, dct, dt, sl⟩, hl, hc, n, hd⟩ := hL
  replace hc : c = .type "tuple" := hc
  replace hd : dt = .seq items n := hd
  subst hc hd
  refine callType_new F.called_enumerate (by decide) (F.typeCall_enumerate_1 _) (F.newCall_enumerate_1 _) (fun obj => F.args_object_init_2 obj _) F.entry_enumerate_new
    (meets_enumerate_newT l items n dct sl) ⟨hl, ?_⟩
  have hz : (s.heap.push { cls := .type "tuple_iterator", data := .fields #[.ref l, .int 0 0] }).objs.size = s.heap.objs.size + 1 := Heap.size_push ..
  show _ ∧ _
  rw [hz]
  have he : IsEnum ((s.heap.push { cls := .type "tuple_iterator", data := .fields #[.ref l, .int 0 0] }).push
      { cls := .type "enumerate", data := .fields #[.none, .bool false, .ref s.heap.objs.size, rawInt 0, .none, .none] }) (s.heap.objs.size + 1) s.heap.objs.size 0 .none := by
    have := Heap.get?_push_size (s.heap.push { cls := .type "tuple_iterator", data := .fields #[.ref l, .int 0 0] })
      (o := { cls := .type "enumerate", data := .fields #[.none, .bool false, .ref s.heap.objs.size, rawInt 0, .none, .none] }) rfl
    rw [hz] at this; exact this
  refine ⟨⟨_, he, rfl⟩, h _ he ⟨_, Heap.get?_push_of_some _ (Heap.get?_push_size _ rfl), rfl, rfl⟩ (by rw [Heap.size_push, hz]) fun b o x => Heap.get?_push_of_some _ (Heap.get?_push_of_some _ x)⟩
end
def IteT (K : PySem.W.Frag) (a : Addr) : It :=
  ⟨fun i H => ∃ (xs : List V) (x : V), SqT K H a xs ∧ xs[i]? = some x, fun i H v H' => ∃ T x, v = .ref T ∧ H T = none ∧ H' = upd H T (.tup [.int (i : Nat), x]) ∧ ∀ xs, SqT K H a xs → xs[i]? = some x, fun i H => ∃ xs : List V, SqT K H a xs ∧ xs.length ≤ i⟩
theorem tup_ne_iter {h : Heap} {t it a : Addr} {i : Nat} {items : Array Value} (ht : h.IsTuple t items) (hi : h.IsTupleIter it a i) : t ≠ it := by
  rintro rfl
  obtain ⟨o, ho, hc, _⟩ := ht
  obtain ⟨o2, ho2, hc2, _⟩ := hi
  rw [ho] at ho2
  cases ho2
  rw [hc] at hc2
  injection hc2 with q
  exact absurd q (by decide)
theorem turn_enumT {P : Program} {w : World} {K : PySem.W.Frag} {elts : List Expr} {kk : Nat} {tpos : Pos} (a e it : Addr) :
    Turn P w K (.Tuple elts kk tpos) (IteT K a) [e, it] e (fun i h => (∃ old, IsEnum h e it ((i : Nat) : Int) old) ∧ h.IsTupleIter it a i ∧ e ≠ it) where
  mem := by simp
  obj := fun i h st b hb => by
    obtain ⟨⟨old, he⟩, ⟨o, ho, hc, hd⟩, _⟩ := st
    have e' : b = e ∨ b = it := by simpa using hb
    rcases e' with z | z
    · rw [z]; exact ⟨_, he, fun v q => nomatch q⟩
    · rw [z]; exact ⟨o, ho, fun v q => by rw [hd] at q; cases q⟩
  keep := fun i h h' st k => let ⟨⟨old, he⟩, hi, hne⟩ := st; ⟨⟨old, k e (by simp) _ he⟩, hi.at fun o q => k it (by simp) o q, hne⟩
  item := by
    intro X hP hw hK hc i pins s σ H E I hf st hg
    subst hP hw hK
    obtain ⟨⟨old, he⟩, hit, hne⟩ := st
    obtain ⟨xs, x, hq, hx⟩ := hg
    obtain ⟨its, rv, p, hz⟩ := I.tuple hq
    obtain ⟨u, hu, ru⟩ := rv.get hx
    have ht : s.heap.IsTuple a its.toArray := p
    have hel : e < s.heap.objs.size := Heap.lt_size he
    have hil : it < s.heap.objs.size := by obtain ⟨_, q, _⟩ := hit; exact Heap.lt_size q
    have hane : a ≠ it := tup_ne_iter ht hit
    have hea : e ≠ a := by
      rintro rfl
      obtain ⟨o, ho, hc2, _⟩ := ht
      rw [show s.heap.get? e = some _ from he] at ho
      cases ho
      injection hc2 with q
      exact absurd q (by decide)
    have hlt : i < its.toArray.size := by
      have q := (List.getElem?_eq_some_iff.mp hu).1
      simpa using q
    refine wpAny_pyNext_enum_itemD (Draws.tuple (A := X.A.in1) (I.ok.hd hc) it a hane its.toArray) he ⟨hit, ht⟩ hlt hne (by simp [hea, hne]) fun x' h' tk hx' ho hst hT hsz hk => ?_
    have ex : x' = u := by
      have hx2 : its.toArray[i]? = some x' := hx'
      have hu2 : its.toArray[i]? = some u := by simpa using hu
      rw [hu2] at hx2
      cases hx2
      rfl
    subst ex
    refine ⟨_, rfl, wpAny_letOwnedTupleGo_enum (s := { s with heap := h', toks := tk + 1 }) ho fun h'' he' sb => ?_⟩
    have hT2 : h''.get? s.heap.objs.size = some { cls := .type "tuple", data := .seq #[.int i tk, x'] } := (sb.2 _ (Nat.ne_of_gt hel)).trans hT
    have new : ObjOk X.prog X.w (upd H s.heap.objs.size (.tup [.int (i : Nat), x])) h'' s.heap.objs.size (.tup [.int (i : Nat), x]) :=
      ⟨by show 2 ≤ sizeLine; decide, [.int i tk, x'], .cons ⟨_, rfl⟩ (.cons ru .nil), ⟨_, hT2, rfl, _, rfl⟩⟩
    have I1 : Inv X pins σ (upd H s.heap.objs.size (.tup [.int (i : Nat), x])) { s with heap := h'', toks := tk + 1 } :=
      I.turnedNew (ch := [e, it]) (fun b ob hb q => (sb.2 b (fun z => hb (by simp [z]))).trans (hk b ob (fun z => hb (by simp [z])) (fun z => hb (by simp [z])) q)) hf (Nat.le_refl _) new
    refine ⟨.ref s.heap.objs.size, _, I1, rfl, ⟨_, x, rfl, I.hok.fresh (Nat.le_refl _), rfl, fun ys hy => by rw [I.tuple_inj hy hq]; exact hx⟩, ⟨⟨x', ?_⟩, hst.1.at fun o q => (sb.2 it (Ne.symm hne)).trans q, hne⟩, fun b hb => ?_⟩
    · have e1 : ((i + 1 : Nat) : Int) = (i : Int) + 1 := by omega
      rw [e1]; exact he'
    · have hb' : b < s.heap.objs.size := by
        have e' : b = e ∨ b = it := by simpa using hb
        rcases e' with z | z
        · rw [z]; exact hel
        · rw [z]; exact hil
      rw [upd_ne (Nat.ne_of_lt hb')]
      exact (hf b hb).1
  done := by
    intro X hP hw hK hc i pins s σ H E I hf st hg
    subst hP hw hK
    obtain ⟨⟨old, he⟩, hit, hne⟩ := st
    obtain ⟨xs, hq, hx⟩ := hg
    obtain ⟨its, rv, p, hz⟩ := I.tuple hq
    have ht : s.heap.IsTuple a its.toArray := p
    obtain ⟨f0, f1, f2, f3, f4, f5⟩ := hf it (by simp)
    have hl := rv.length
    have hT : s.TypeIs (.ref e) "enumerate" := ⟨_, he, rfl⟩
    have hane : a ≠ it := tup_ne_iter ht hit
    unfold pyNext
    refine wpAny_bind (wpAny_attempt (wpAny_callSpecial?_slot (name := Str.ofString "__next__") hT F.slot_enumerate_next
      (wpAny_call_entry F.slot_enumerate_next hT F.entry_enumerate_next ?_ (F.args_enumerate_next_1 _))))
    show wpAny _ _ (field (.ref e) 2 >>= _) _ _ _
    refine wpAny_bind (wpAny_field he rfl (x := .ref it) rfl ?_)
    refine wpAny_bind (wpAny_nextOf_tuple_end (I.ok.hd hc) hit ht (by simp; omega) fun h' x he' hx' => ?_)
    obtain ⟨o, ho, hc⟩ := hx'
    refine wpAny_bind (wpAny_isInstance (T := "StopIteration") (b := true) ⟨o, ho, hc⟩ isSubtype_stop ?_)
    exact wpAny_pure ⟨rfl, I.turned (t' := s.toks) (fun b o hb q => he' b o hb q) f0 f1 f3 f4 f5⟩
  self := fun A i s Q E st h => let ⟨⟨_, he⟩, _⟩ := st; wpAny_pyIter_enum he h
def iEnumT (K : PySem.W.Frag) (ta : TA) : TI := fun σ H R => ta σ H fun vs H1 => ∃ a xs, vs = [.ref a] ∧ SqT K H1 a xs ∧ R (IteT K a) H1
theorem pi_enumT {X : Cx} {e : Expr} {ta : TA} {p pos tpos : Pos} {elts : List Expr} {kk : Nat} (hg : Gl X "enumerate") (hm : X.mg "enumerate" = none) (ha : PA X [e] ta) (hs : starEach [e] X.env = [(false, eval e X.env)] := by rfl) :
    PI X (.Tuple elts kk tpos) (.Call (.Name "enumerate" p) [e] [] pos) (iEnumT X.K ta) := by
  refine ⟨fun pins s σ H R I h => ?_⟩
  refine Call_ (ld_blt I hg hm boot_enumerate (PyProof.Rows.callWith_type1 (thn (ha.run pos pins s σ H _ I h) fun us s1 ⟨vs, H1, I1, r1, q1⟩ => ?_) hs rfl))
  obtain ⟨a, xs, ex, hq, q⟩ := q1
  subst ex
  cases r1 with
  | cons r rr =>
    cases rr
    cases r
    obtain ⟨its, rv, p', hz⟩ := I1.tuple hq
    refine call_enumerate_tup (show s1.heap.IsTuple a its.toArray from p') fun h' he hit hsz hk => wpAny_pyIter_enum he ?_
    have I2 : Inv X pins σ H1 { s1 with heap := h' } := I1.kept (t' := s1.toks) hk
    refine ⟨s1.heap.objs.size + 1, [s1.heap.objs.size + 1, s1.heap.objs.size], _, _, H1, rfl, I2, turn_enumT a (s1.heap.objs.size + 1) s1.heap.objs.size, ⟨⟨.none, he⟩, hit, Nat.succ_ne_self _⟩, fun b hb => ?_, q⟩
    have e' : b = s1.heap.objs.size + 1 ∨ b = s1.heap.objs.size := by simpa using hb
    have hle : s1.heap.objs.size ≤ b := by
      rcases e' with z | z
      · rw [z]; exact Nat.le_add_right _ _
      · rw [z]; exact Nat.le_refl _
    exact I1.fpOk hle (I1.hok.fresh hle)
theorem walk_enumT {K : PySem.W.Frag} {a : Addr} {xs : List V} : Walk (IteT K a) xs.length (fun H => SqT K H a xs) (YPair (fun i => some (.int (i : Nat))) (fun i => xs[i]?)) := by
  refine ⟨fun i _ hi q => ⟨xs, xs[i], q, by simp [hi]⟩, fun _ q => ⟨xs, q, Nat.le_refl _⟩, fun i H v H' _ q y => ?_⟩
  obtain ⟨T, x, h1, h2, h3, h4⟩ := y
  exact ⟨T, .int (i : Nat), x, h1, h2, h3, rfl, h4 xs q⟩
/-! ### a Hook with further facts -/
def obsM (fa : List He.Fa) (fs : List (PySem.W.Frag → Bool)) (fn : List He.DefD) (K : PySem.W.Frag) : He.AlD := ((fa.all fun f => f.ok K) && ((fs.all fun f => f K) && fn.all fun d => d.ok K), fn.map fun d => He.fnW K d.at_)
def SaysM (fa : List He.Fa) (fs : List (PySem.W.Frag → Bool)) (fn : List He.DefD) (K : PySem.W.Frag) : Prop := obsM fa fs fn K = He.valD fn
def obsMG (n : Nat) (fa : List He.Fa) (fs : List (PySem.W.Frag → Bool)) (fn : List He.DefD) (g : Addr → Option Obj) : He.AlD := obsM fa fs fn (He.frG g (He.asD g n))
def hookM (n : Nat) (fa : List He.Fa) (fs : List (PySem.W.Frag → Bool)) (fn : List He.DefD) : PySem.W.Hook where
  α := He.AlD
  obs := fun s => obsMG n fa fs fn s.heap.get?
  val := fun _ => He.valD fn
  says := fun _ h => ∃ K : PySem.W.Frag, K.In h ∧ SaysM fa fs fn K
  of := fun _ _ e => ⟨_, He.frG_in, e⟩
  keeps := fun _ _ _ ⟨K, hK, c⟩ k => ⟨K, PySem.W.Frag.In.keeps hK k, c⟩
theorem obsMG_eq {n : Nat} {fa : List He.Fa} {fs : List (PySem.W.Frag → Bool)} {fn : List He.DefD} {g : Addr → Option Obj} {s : Shared} (h : ∀ a, g a = s.heap.get? a) : obsMG n fa fs fn g = (hookM n fa fs fn).obs s := by
  have e : g = s.heap.get? := funext h
  rw [e] <;> rfl
section
variable {fa : List He.Fa} {fs : List (PySem.W.Frag → Bool)} {fn : List He.DefD} {K : PySem.W.Frag}
theorem SaysM.fact (c : SaysM fa fs fn K) (i : Nat) {f : He.Fa} (h : fa[i]? = some f) : f.ok K = true := by
  have c1 := (He.ba (show ((fa.all fun f => f.ok K) && ((fs.all fun f => f K) && fn.all fun d => d.ok K)) = true from congrArg (fun z : He.AlD => z.1) c)).1
  exact List.all_eq_true.mp c1 f (List.mem_of_getElem? h)
theorem SaysM.chk (c : SaysM fa fs fn K) (i : Nat) {f : PySem.W.Frag → Bool} (h : fs[i]? = some f) : f K = true := by
  have c1 := (He.ba (He.ba (show ((fa.all fun f => f.ok K) && ((fs.all fun f => f K) && fn.all fun d => d.ok K)) = true from congrArg (fun z : He.AlD => z.1) c)).2).1
  exact List.all_eq_true.mp c1 f (List.mem_of_getElem? h)
theorem SaysM.def_ (c : SaysM fa fs fn K) (i : Nat) {d : He.DefD} (h : fn[i]? = some d) : ∃ fd, FunD K d.name d.qual d.params d.body d.scope (d.dvs K) (d.kws K) (He.fAd K d.at_) fd := by
  have c2 := (He.ba (He.ba (show ((fa.all fun f => f.ok K) && ((fs.all fun f => f K) && fn.all fun d => d.ok K)) = true from congrArg (fun z : He.AlD => z.1) c)).2).2
  have e : fn.map (fun d => He.fnW K d.at_) = fn.map He.DefD.val := congrArg (fun z : He.AlD => z.2) c
  have e2 : (fn.map fun d => He.fnW K d.at_)[i]? = (fn.map He.DefD.val)[i]? := by rw [e]
  rw [List.getElem?_map, List.getElem?_map, h] at e2
  exact He.DefD.funD (Option.some.inj e2) (List.all_eq_true.mp c2 d (List.mem_of_getElem? h))
end
/-! ### the ledger: what is known of a heap, by addresses -/
abbrev Led := List (Addr × (HO → Prop))
def Is (o : HO) : HO → Prop := fun x => x = o
/-- behind H0: what stood there stands, but for the addresses of S, which hold something -/
def Kp (S : List Addr) (H0 H : Hp) : Prop := ∀ b o, H0 b = some o → H b = some o ∨ (b ∈ S ∧ ∃ u, H b = some u)
structure Stt (H0 : Hp) (S : List Addr) (l : Led) (H : Hp) : Prop where
  keep : Kp S H0 H
  nd : (l.map (·.1)).Nodup
  at_ : ∀ e ∈ l, ∃ o, H e.1 = some o ∧ e.2 o
inductive Put : Led → Addr → (HO → Prop) → Led → Prop where
  | head {a : Addr} {f g : HO → Prop} {l : Led} : Put ((a, f) :: l) a g ((a, g) :: l)
  | tail {a : Addr} {g : HO → Prop} {x : Addr × (HO → Prop)} {l l' : Led} (h : Put l a g l') : Put (x :: l) a g (x :: l')
theorem Kp.refl {S : List Addr} (H : Hp) : Kp S H H := fun _ _ e => .inl e
theorem Kp.none {S : List Addr} {H0 H : Hp} (h : Kp S H0 H) {p : Addr} (hp : H p = none) : H0 p = none := by
  cases e : H0 p with
  | none => rfl
  | some o =>
    rcases h p o e with q | ⟨_, u, q⟩
    · rw [hp] at q; cases q
    · rw [hp] at q; cases q
theorem Kp.trans {S S' : List Addr} {H0 H1 H2 : Hp} (a : Kp S H0 H1) (b : Kp S' H1 H2) (hs : ∀ x ∈ S', x ∈ S ∨ H0 x = Option.none) : Kp S H0 H2 := fun x o e => by
  rcases a x o e with q | ⟨m, u, q⟩
  · rcases b x o q with r | ⟨m, r⟩
    · exact .inl r
    · rcases hs x m with z | z
      · exact .inr ⟨z, r⟩
      · rw [e] at z; cases z
  · rcases b x u q with r | ⟨_, r⟩
    · exact .inr ⟨m, u, r⟩
    · exact .inr ⟨m, r⟩
theorem Kp.same {H0 H : Hp} (h : Kp [] H0 H) : Same H0 H := fun b o e => (h b o e).elim id fun z => nomatch z.1
theorem Kp.of_same {S : List Addr} {H0 H : Hp} (h : Same H0 H) : Kp S H0 H := fun b o e => .inl (h b o e)
theorem Kp.mono {S S' : List Addr} {H0 H : Hp} (h : Kp S H0 H) (hs : ∀ x ∈ S, x ∈ S') : Kp S' H0 H := fun b o e => (h b o e).imp id fun z => ⟨hs b z.1, z.2⟩
theorem Kp.get {S : List Addr} {H0 H : Hp} (h : Kp S H0 H) {a : Addr} {o : HO} (ha : a ∉ S) (e : H0 a = some o) : H a = some o := (h a o e).elim id fun z => absurd z.1 ha
theorem Kp.seqL {S : List Addr} {K : PySem.W.Frag} {H H' : Hp} {l : Addr} {xs : List V} (a : Kp S H H') (hl : l ∉ S) (h : SqL K H l xs) : SqL K H' l xs := by
  rcases h with (h | ⟨o, h⟩) | h
  · exact .inl (.inl (a.get hl h))
  · exact .inl (.inr ⟨o, a.get hl h⟩)
  · exact .inr h
section
variable {H0 H H1 : Hp} {S : List Addr} {l l' : Led} {a p : Addr} {o : HO} {f : HO → Prop}
theorem Put.keys (h : Put l a f l') : l'.map (·.1) = l.map (·.1) := by
  induction h with
  | head => rfl
  | tail h ih => simp only [List.map_cons, ih]
theorem Put.mem (h : Put l a f l') : a ∈ l.map (·.1) := by
  induction h with
  | head => exact List.mem_cons_self
  | tail h ih => exact List.mem_cons_of_mem _ ih
theorem Put.new (h : Put l a f l') (hn : (l.map (·.1)).Nodup) : ∀ e ∈ l', (e = (a, f)) ∨ (e ∈ l ∧ e.1 ≠ a) := by
  induction h with
  | head =>
    intro e he
    rcases List.mem_cons.mp he with z | z
    · exact .inl z
    · refine .inr ⟨List.mem_cons_of_mem _ z, fun q => ?_⟩
      rw [List.map_cons, List.nodup_cons] at hn
      exact hn.1 (List.mem_map.mpr ⟨e, z, q⟩)
  | @tail a g x l l' h ih =>
    intro e he
    rw [List.map_cons, List.nodup_cons] at hn
    rcases List.mem_cons.mp he with z | z
    · subst z
      refine .inr ⟨List.mem_cons_self, fun q => ?_⟩
      exact hn.1 (q ▸ h.mem)
    · rcases ih hn.2 e z with q | ⟨q1, q2⟩
      · exact .inl q
      · exact .inr ⟨List.mem_cons_of_mem _ q1, q2⟩
theorem Stt.nil : Stt H S [] H := ⟨.refl H, List.nodup_nil, fun _ h => nomatch h⟩
theorem Stt.none (h : Stt H0 S l H) (hp : H p = none) : H0 p = none := h.keep.none hp
theorem Stt.get (h : Stt H0 S l H) (m : (a, Is o) ∈ l) : H a = some o := by
  obtain ⟨u, e1, e2⟩ := h.at_ _ m
  rw [e1, show u = o from e2]
theorem Stt.pick (h : Stt H0 S l H) (m : (a, f) ∈ l) : ∃ o, H a = some o ∧ f o := h.at_ _ m
theorem Stt.ne (h : Stt H0 S l H) {b : Addr} {g : HO → Prop} (m : (a, f) ∈ l) (m2 : (b, g) ∈ l) (hd : ∀ o, f o → ¬ g o) : a ≠ b := by
  rintro rfl
  obtain ⟨o, e1, e2⟩ := h.at_ _ m
  obtain ⟨o2, e3, e4⟩ := h.at_ _ m2
  rw [e1] at e3
  cases e3
  exact hd _ e2 e4
theorem Stt.fresh (h : Stt H0 S l H) (hp : H p = Option.none) : p ∉ l.map (·.1) := fun m => by
  obtain ⟨e, me, q⟩ := List.mem_map.mp m
  obtain ⟨o, h1, _⟩ := h.at_ e me
  rw [q, hp] at h1
  cases h1
theorem Stt.new (h : Stt H0 S l H) (hp : H p = Option.none) (o : HO) : Stt H0 S ((p, Is o) :: l) (upd H p o) where
  keep := fun b u e => by
    rcases h.keep b u e with q | ⟨m, v, q⟩
    · exact .inl (by rw [upd_ne (ne_of_none q hp)]; exact q)
    · exact .inr ⟨m, v, by rw [upd_ne (ne_of_none q hp)]; exact q⟩
  nd := by
    rw [List.map_cons]
    exact List.nodup_cons.mpr ⟨h.fresh hp, h.nd⟩
  at_ := fun e m => by
    rcases List.mem_cons.mp m with z | z
    · subst z
      exact ⟨o, upd_same, rfl⟩
    · obtain ⟨u, h1, h2⟩ := h.at_ e z
      exact ⟨u, by rw [upd_ne (ne_of_none h1 hp)]; exact h1, h2⟩
theorem Stt.set (h : Stt H0 S l H) (u : Put l a (Is o) l') (ha : a ∈ S ∨ H0 a = Option.none) : Stt H0 S l' (upd H a o) where
  keep := fun b v e => by
    by_cases hb : b = a
    · subst hb
      rcases ha with z | z
      · exact .inr ⟨z, o, upd_same⟩
      · rw [e] at z; cases z
    · rw [upd_ne hb]
      exact h.keep b v e
  nd := by rw [u.keys]; exact h.nd
  at_ := fun e m => by
    rcases u.new h.nd e m with z | ⟨z1, z2⟩
    · subst z
      exact ⟨o, upd_same, rfl⟩
    · obtain ⟨v, h1, h2⟩ := h.at_ e z1
      exact ⟨v, by rw [upd_ne z2]; exact h1, h2⟩
/-- one entry told otherwise -/
theorem Stt.re (h : Stt H0 S l H) (u : Put l a f l') (hf : ∃ o, H a = some o ∧ f o) : Stt H0 S l' H := ⟨h.keep, by rw [u.keys]; exact h.nd, fun e m => by
  rcases u.new h.nd e m with z | ⟨z1, _⟩
  · subst z
    exact hf
  · exact h.at_ e z1⟩
theorem Stt.sub (h : Stt H0 S l H) (s : List.Sublist l' l) : Stt H0 S l' H := ⟨h.keep, List.Nodup.sublist (s.map _) h.nd, fun e m => h.at_ e (s.subset m)⟩
/-- a further entry, of another kind than all others -/
theorem Stt.add (h : Stt H0 S l H) (hf : ∃ o, H a = some o ∧ f o) (hn : a ∉ l.map (·.1)) : Stt H0 S ((a, f) :: l) H := ⟨h.keep, by
  rw [List.map_cons]
  exact List.nodup_cons.mpr ⟨hn, h.nd⟩, fun e m => by
  rcases List.mem_cons.mp m with z | z
  · subst z
    exact hf
  · exact h.at_ e z⟩
/-- behind a call that changed the addresses of S' alone and left them as they were told -/
theorem Stt.after {S' : List Addr} (h : Stt H0 S l H) (k : Kp S' H H1) (hs : ∀ x ∈ S', x ∈ S ∨ H0 x = Option.none) (hf : ∀ e ∈ l, e.1 ∈ S' → ∃ o, H1 e.1 = some o ∧ e.2 o) : Stt H0 S l H1 := ⟨h.keep.trans k hs, h.nd, fun e m => by
  obtain ⟨o, h1, h2⟩ := h.at_ e m
  by_cases z : e.1 ∈ S'
  · exact hf e m z
  · exact ⟨o, k.get z h1, h2⟩⟩
theorem Stt.after0 (h : Stt H0 S l H) (k : Kp [] H H1) : Stt H0 S l H1 := h.after k (fun _ z => nomatch z) fun _ _ z => nomatch z
/-- .. of one address -/
theorem Stt.after1 (h : Stt H0 S l H) (m : (a, f) ∈ l) (k : Kp [a] H H1) (hs : a ∈ S ∨ H0 a = Option.none) (hf : ∃ o, H1 a = some o ∧ f o) : Stt H0 S l H1 :=
  h.after k (fun x z => by rw [List.mem_singleton.mp z]; exact hs) fun e me z => by
    have q : e.1 = a := List.mem_singleton.mp z
    have : e = (a, f) := by
      have n := h.nd
      have i1 : (a, f).1 = e.1 := q.symm
      exact (inj_of_nodup n me m q)
    subst this
    exact hf
where
  inj_of_nodup : ∀ {l : Led} (_ : (l.map (·.1)).Nodup) {x y : Addr × (HO → Prop)}, x ∈ l → y ∈ l → x.1 = y.1 → x = y
    | [], _, _, _, h, _, _ => nomatch h
    | z :: r, n, x, y, hx, hy, e => by
      rw [List.map_cons, List.nodup_cons] at n
      rcases List.mem_cons.mp hx with q | q
      · rcases List.mem_cons.mp hy with q2 | q2
        · rw [q, q2]
        · exact absurd (List.mem_map.mpr ⟨y, q2, by rw [← e, q]⟩) n.1
      · rcases List.mem_cons.mp hy with q2 | q2
        · exact absurd (List.mem_map.mpr ⟨x, q, by rw [e, q2]⟩) n.1
        · exact inj_of_nodup n.2 q q2 e
/-- .. which is told otherwise behind it -/
theorem Stt.afterX {g : HO → Prop} (h : Stt H0 S ((a, f) :: l) H) (k : Kp [a] H H1) (hs : a ∈ S ∨ H0 a = Option.none) (hg : ∃ o, H1 a = some o ∧ g o) : Stt H0 S ((a, g) :: l) H1 := by
  have h2 : Stt H0 S ((a, fun _ => True) :: l) H := h.re .head (by obtain ⟨o, e, _⟩ := h.pick (a := a) (f := f) List.mem_cons_self; exact ⟨o, e, trivial⟩)
  obtain ⟨o, e, q⟩ := hg
  exact (h2.after1 List.mem_cons_self k hs ⟨o, e, trivial⟩).re .head ⟨o, e, q⟩
theorem Stt.base {S' : List Addr} (h : Stt H0 S l H) (s : List.Sublist l' l) : Stt H S' l' H := ⟨.refl H, List.Nodup.sublist (s.map _) h.nd, fun e m => h.at_ e (s.subset m)⟩
theorem Stt.sqL {K : PySem.W.Frag} {xs : List V} (h : Stt H0 S l H) (m : (a, Is (.lst xs)) ∈ l) : SqL K H a xs := .inl (.inl (h.get m))
theorem Stt.sqT {K : PySem.W.Frag} {xs : List V} (h : Stt H0 S l H) (m : (a, Is (.tup xs)) ∈ l) : SqT K H a xs := .inl (.inl (h.get m))
theorem Stt.sqF {K : PySem.W.Frag} {xs : List V} {fo : Obj} (h : Stt H0 S l H) (m : (a, Is (.frz fo (.lst xs))) ∈ l) : SqL K H a xs := .inl (.inr ⟨fo, h.get m⟩)
end
/-- a draw's state: a list [cells, nth, value, flag]; cells a list of ints -/
def DrS (c : Addr) : HO → Prop := fun o => ∃ (nth val : Int) (fl : Bool), o = .lst [.ref c, .int nth, .int val, .bl fl]
/-! ### readings, one step each -/
namespace Rd
variable {K : PySem.W.Frag} {D : Ends} {σ : L2.St} {H H0 : Hp} {Q : VK} {S : List Addr} {l l' : Led} {t t1 t2 u : TS} {te ta tb tc : TE} {x y v : V} {r : R2} {i j : Nat}
theorem seq (h : t1 { D with nx := t2 D } σ H) : tSeq t1 t2 D σ H := h
theorem cut (Mid : L2.St → Hp → Prop) (h1 : t1 { D with nx := Mid } σ H) (h2 : ∀ σ' H', Mid σ' H' → t2 D σ' H') : C8.tCut t1 t2 D σ H := ⟨Mid, h1, h2⟩
theorem next (h : D.nx σ H) : tNext D σ H := h
theorem brk (h : D.bk σ H) : tBreak D σ H := h
theorem cont (h : D.ct σ H) : tCont D σ H := h
theorem asg (h : te σ H fun x H1 => D.nx (σ.set i (some x)) H1) : tAsg te (gName i) D σ H := h
theorem drop (h : te σ H fun _ H1 => D.nx σ H1) : tDrop te D σ H := h
theorem ret (h : te σ H D.rt) : tRet te D σ H := h
theorem retN (h : D.rt .non H) : tRetN D σ H := h
def Par (D : Ends) (σ : L2.St) (i j : Nat) (vs : List V) (H1 : Hp) : Prop := ∃ v w, vs = [v, w] ∧ D.nx ((σ.set i (some v)).set j (some w)) H1
theorem par {ta : TA} (h : ta σ H fun vs H1 => Par D σ i j vs H1) : tPar i j ta D σ H := h
theorem parL {v w : V} (h : D.nx ((σ.set i (some v)).set j (some w)) H) : Par D σ i j [v, w] H := ⟨v, w, rfl, h⟩
theorem var (e : σ[i]? = some (some v)) (h : Q v H) : tVar i σ H Q := ⟨v, e, h⟩
theorem con (h : Q v H) : tC v σ H Q := h
theorem op (h : ta σ H fun x H1 => tb σ H1 fun y H2 => r x y H2 Q) : tOp r ta tb σ H Q := h
theorem un {r : V → Hp → VK → Prop} (h : ta σ H fun x H1 => r x H1 Q) : tUn r ta σ H Q := h
theorem i0 {g : Int → Int → V} {a b : Int} (h : Q (g a b) H) : rI0 g (.int a) (.int b) H Q := ⟨a, b, rfl, rfl, h⟩
theorem ic {C : Int → Int → Prop} {g : Int → Int → V} {a b : Int} (c : C a b) (h : Q (g a b) H) : rI C g (.int a) (.int b) H Q := ⟨a, b, rfl, rfl, c, h⟩
theorem u1 {g : Int → V} {a : Int} (h : Q (g a) H) : rU g (.int a) H Q := ⟨a, rfl, h⟩
theorem eqS (s : scal x y = true) (h : Q (.bl (decide (x = y))) H) : rEq x y H Q := ⟨s, h⟩
theorem neS (s : scal x y = true) (h : Q (.bl (!decide (x = y))) H) : rNe x y H Q := ⟨s, h⟩
theorem nil {Q : List V → Hp → Prop} (h : Q [] H) : tNil σ H Q := h
theorem cons {ts : TA} {Q : List V → Hp → Prop} (h : te σ H fun x H1 => ts σ H1 fun xs H2 => Q (x :: xs) H2) : tCons te ts σ H Q := h
def Tup (vs : List V) (H1 : Hp) (Q : VK) : Prop := vs.length ≤ sizeLine ∧ ∀ p, H1 p = none → Q (.ref p) (upd H1 p (.tup vs))
def Lst (vs : List V) (H1 : Hp) (Q : VK) : Prop := vs.length ≤ sizeLine ∧ ∀ p, H1 p = none → Q (.ref p) (upd H1 p (.lst vs))
theorem tup {ta : TA} (h : ta σ H fun vs H1 => Tup vs H1 Q) : tTup ta σ H Q := h
theorem lst {ta : TA} (h : ta σ H fun vs H1 => Lst vs H1 Q) : tLst ta σ H Q := h
theorem tupN {vs : List V} (st : Stt H0 S l H) (hz : vs.length ≤ 100000) (k : ∀ p H1, H0 p = none → Stt H0 S ((p, Is (.tup vs)) :: l) H1 → Q (.ref p) H1) : Tup vs H Q :=
  ⟨Nat.le_trans hz (by decide), fun p hp => k p _ (st.none hp) (st.new hp _)⟩
theorem lstN {vs : List V} (st : Stt H0 S l H) (hz : vs.length ≤ 100000) (k : ∀ p H1, H0 p = none → Stt H0 S ((p, Is (.lst vs)) :: l) H1 → Q (.ref p) H1) : Lst vs H Q :=
  ⟨Nat.le_trans hz (by decide), fun p hp => k p _ (st.none hp) (st.new hp _)⟩
theorem ixL {p : Addr} {xs : List V} {z : Int} (st : Stt H0 S l H) (m : (p, Is (.lst xs)) ∈ l) (e : atI xs z = some v) (h : Q v H) : rIxL K (.ref p) (.int z) H Q := ⟨p, xs, z, v, rfl, rfl, st.sqL m, e, h⟩
theorem ixT {p : Addr} {xs : List V} {z : Int} (st : Stt H0 S l H) (m : (p, Is (.tup xs)) ∈ l) (e : atI xs z = some v) (h : Q v H) : rIxT K (.ref p) (.int z) H Q := ⟨p, xs, z, v, rfl, rfl, st.sqT m, e, h⟩
theorem ixLs {p : Addr} {xs : List V} {z : Int} (s : SqL K H p xs) (e : atI xs z = some v) (h : Q v H) : rIxL K (.ref p) (.int z) H Q := ⟨p, xs, z, v, rfl, rfl, s, e, h⟩
def rLenQ (K : PySem.W.Frag) : List V → Hp → VK → Prop := fun xs H Q => ∃ p ys, xs = [V.ref p] ∧ (SqL K H p ys ∨ SqT K H p ys) ∧ Q (V.int (ys.length : Int)) H
theorem cb {r : List V → Hp → VK → Prop} {ta : TA} (h : ta σ H fun vs H1 => r vs H1 Q) : tCB r ta σ H Q := h
theorem lenL {p : Addr} {xs : List V} (st : Stt H0 S l H) (m : (p, Is (.lst xs)) ∈ l) (h : Q (.int (xs.length : Int)) H) : rLenQ K [.ref p] H Q := ⟨p, xs, rfl, .inl (st.sqL m), h⟩
theorem lenT {p : Addr} {xs : List V} (st : Stt H0 S l H) (m : (p, Is (.tup xs)) ∈ l) (h : Q (.int (xs.length : Int)) H) : rLenQ K [.ref p] H Q := ⟨p, xs, rfl, .inr (st.sqT m), h⟩
def rIntQ : List V → Hp → VK → Prop := fun xs H Q => (∃ i, xs = [.int i] ∧ Q (.int i) H) ∨ ∃ k, xs = [.bl k] ∧ Q (.int (if k then 1 else 0)) H
theorem intI {z : Int} (h : Q (.int z) H) : rIntQ [.int z] H Q := .inl ⟨z, rfl, h⟩
def rAbsQ : List V → Hp → VK → Prop := fun xs H Q => ∃ i, xs = [.int i] ∧ Q (.int (if i < 0 then -i else i)) H
theorem absI {z : Int} (h : Q (.int (if z < 0 then -z else z)) H) : rAbsQ [.int z] H Q := ⟨z, rfl, h⟩
def Aug (i : Nat) (ti : TIp) (x y : V) (H1 : Hp) (Qz : V → Hp → Prop) : Prop := ti x y H1 Qz
theorem aug {ti : TIp} {x : V} (e : σ[i]? = some (some x)) (h : te σ H fun y H1 => ti x y H1 fun z H2 => D.nx (σ.set i (some z)) H2) : tAug i te ti D σ H := ⟨x, e, h⟩
theorem ipI {f : Int → Int → Int} {a b : Int} (h : Q (.int (f a b)) H) : L2.ipI f (.int a) (.int b) H Q := ⟨a, b, rfl, rfl, h⟩
/-- tests -/
def Bl (x : V) (H1 : Hp) (Q : Bool → Hp → Prop) : Prop := ∃ k, x = .bl k ∧ Q k H1
theorem test {Q : Bool → Hp → Prop} (h : te σ H fun x H1 => Bl x H1 Q) : tTest te σ H Q := h
theorem tbl {Q : Bool → Hp → Prop} (h : te σ H fun x H1 => Bl x H1 Q) : tB te σ H Q := h
theorem bl {Q : Bool → Hp → Prop} {k : Bool} (h : Q k H) : Bl (.bl k) H Q := ⟨k, rfl, h⟩
def Br (c : Bool) (A B : Prop) : Prop := if c = true then A else B
theorem ifS {c : TT} (h : c σ H fun b H1 => Br b (t D σ H1) (u D σ H1)) : tIfS c t u D σ H := h
theorem ifE {c : TT} (h : c σ H fun b H1 => Br b (ta σ H1 Q) (tb σ H1 Q)) : tIf c ta tb σ H Q := h
theorem andT {c d : TT} {Q : Bool → Hp → Prop} (h : c σ H fun b H1 => Br b (d σ H1 Q) (Q false H1)) : tAnd c d σ H Q := h
theorem orT {c d : TT} {Q : Bool → Hp → Prop} (h : c σ H fun b H1 => Br b (Q true H1) (d σ H1 Q)) : tOr c d σ H Q := h
theorem notT {c : TT} {Q : Bool → Hp → Prop} (h : c σ H fun b H1 => Q (!b) H1) : tNot c σ H Q := h
def BlV (x : V) (A B : Prop) : Prop := ∃ c, x = .bl c ∧ if c = true then A else B
theorem andV (h : ta σ H fun x H1 => BlV x (tb σ H1 Q) (Q (.bl false) H1)) : tAndV ta tb σ H Q := h
theorem orV (h : ta σ H fun x H1 => BlV x (Q (.bl true) H1) (tb σ H1 Q)) : tOrV ta tb σ H Q := h
theorem blV {c : Bool} {A B : Prop} (h : Br c A B) : BlV (.bl c) A B := ⟨c, rfl, h⟩
def NotV (x : V) (H1 : Hp) (Q : VK) : Prop := ∃ c, x = .bl c ∧ Q (.bl (!c)) H1
theorem notV (h : ta σ H fun x H1 => NotV x H1 Q) : tNotV ta σ H Q := h
theorem notVL {c : Bool} (h : Q (.bl (!c)) H) : NotV (.bl c) H Q := ⟨c, rfl, h⟩
theorem brT {A B : Prop} {c : Bool} (e : c = true) (h : A) : Br c A B := by rw [e]; exact h
theorem brF {A B : Prop} {c : Bool} (e : c = false) (h : B) : Br c A B := by rw [e]; exact h
theorem br {A B : Prop} {c : Bool} (h1 : c = true → A) (h2 : c = false → B) : Br c A B := by
  cases c with
  | true => exact h1 rfl
  | false => exact h2 rfl
theorem brD {A B p : Prop} [Decidable p] (h1 : p → A) (h2 : ¬ p → B) : Br (decide p) A B := br (fun e => h1 (of_decide_eq_true e)) fun e => h2 (of_decide_eq_false e)
theorem brTT {A B : Prop} (h : A) : Br true A B := h
theorem brFF {A B : Prop} (h : B) : Br false A B := h
theorem brN {A B : Prop} {c : Bool} (h : Br c B A) : Br (!c) A B := by
  cases c with
  | true => exact h
  | false => exact h
theorem brI {A B : Prop} {p : Prop} [Decidable p] (h1 : p) (h : A) : Br (decide p) A B := brT (decide_eq_true h1) h
theorem brJ {A B : Prop} {p : Prop} [Decidable p] (h1 : ¬ p) (h : B) : Br (decide p) A B := brF (decide_eq_false h1) h
/-- stores -/
theorem sub {ts : TSet} (h : te σ H fun v H1 => ta σ H1 fun o H2 => tb σ H2 fun i H3 => ts o i v H3 fun H4 => D.nx σ H4) : tAsg te (gSub ta tb ts) D σ H := h
theorem setL {p : Addr} {xs : List V} {z : Int} {Qs : Hp → Prop} (st : Stt H0 S l H) (m : (p, Is (.lst xs)) ∈ l) (e : ixN xs.length z = some j) (u : Put l p (Is (.lst (xs.set j v))) l') (ha : p ∈ S ∨ H0 p = none)
    (k : ∀ H1, Stt H0 S l' H1 → Qs H1) : rSetL (.ref p) (.int z) v H Qs := ⟨p, xs, z, j, rfl, rfl, st.get m, e, k _ (st.set u ha)⟩
/-- xs.append(e) -/
def BM (K : PySem.W.Frag) (T : String) (r : V → List V → Hp → VK → Prop) (t : TA) (σ : L2.St) (x : V) (H1 : Hp) (Q : VK) : Prop := tyV K T x H1 ∧ t σ H1 fun xs H2 => r x xs H2 Q
theorem bm {T : String} {r : V → List V → Hp → VK → Prop} {t : TA} (h : ta σ H fun x H1 => BM K T r t σ x H1 Q) : tBM K T r ta t σ H Q := h
theorem bmL {p : Addr} {xs : List V} {r : V → List V → Hp → VK → Prop} {t : TA} (st : Stt H0 S l H) (m : (p, Is (.lst xs)) ∈ l) (h : t σ H fun ys H2 => r (.ref p) ys H2 Q) : BM K "list" r t σ (.ref p) H Q := ⟨.inl ⟨rfl, _, st.sqL m⟩, h⟩
theorem app {p : Addr} {xs : List V} (st : Stt H0 S l H) (m : (p, Is (.lst xs)) ∈ l) (hz : xs.length < 100000) (u : Put l p (Is (.lst (xs ++ [y]))) l') (ha : p ∈ S ∨ H0 p = none) (k : ∀ H1, Stt H0 S l' H1 → Q .non H1) : rAppend (.ref p) [y] H Q :=
  ⟨p, xs, y, rfl, rfl, st.get m, Nat.lt_of_lt_of_le hz (by decide), k _ (st.set u ha)⟩
/-- a, b = t -/
def Gt (K : PySem.W.Frag) (n : Nat) (t : TGs) (v : V) (σ : L2.St) (H : Hp) (Q : L2.St → Hp → Prop) : Prop := gTup K n t v σ H Q
theorem asgT {n : Nat} {gs : TGs} (h : te σ H fun v H1 => gTup K n gs v σ H1 D.nx) : tAsg te (gTup K n gs) D σ H := h
theorem gtup {n : Nat} {gs : TGs} {p : Addr} {xs : List V} {Q : L2.St → Hp → Prop} (st : Stt H0 S l H) (m : (p, Is (.tup xs)) ∈ l) (e : xs.length = n) (h : gs xs σ H Q) : gTup K n gs (.ref p) σ H Q := ⟨p, xs, rfl, st.sqT m, e, h⟩
theorem gcons {g : TG} {gs : TGs} {xs : List V} {Q : L2.St → Hp → Prop} (h : g v σ H fun σ' H' => gs xs σ' H' Q) : gCons g gs (v :: xs) σ H Q := ⟨v, xs, rfl, h⟩
theorem gname {Q : L2.St → Hp → Prop} (h : Q (σ.set i (some v)) H) : gName i v σ H Q := h
theorem gnil {Q : L2.St → Hp → Prop} (h : Q σ H) : gNil [] σ H Q := ⟨rfl, h⟩
/-- slices of lists -/
theorem sl {r : V → Option Int → Option Int → Hp → VK → Prop} {tl th : TO} (h : te σ H fun x H1 => tl σ H1 fun lo H2 => th σ H2 fun hi H3 => r x lo hi H3 Q) : tSl r te tl th σ H Q := h
theorem noPart {Q : Option Int → Hp → Prop} (h : Q none H) : tNoPart σ H Q := h
def Prt (x : V) (H1 : Hp) (Q : Option Int → Hp → Prop) : Prop := ∃ i, x = .int i ∧ Q (some i) H1
theorem part {Q : Option Int → Hp → Prop} (h : te σ H fun x H1 => Prt x H1 Q) : tPart te σ H Q := h
theorem prt {z : Int} {Q : Option Int → Hp → Prop} (h : Q (some z) H) : Prt (.int z) H Q := ⟨z, rfl, h⟩
/-- a call: the promise is asked -/
theorem call {sp : Sp} {dvs : List V} {E : XK} {ta : TA} (h : ta σ H fun vs H1 => sp (vs ++ dvs) H1 Q E) : tCall sp dvs E ta σ H Q := h
/-- the draws' state: what is read is some int, some flag -/
theorem ixD2 {p c : Addr} (st : Stt H0 S l H) (m : (p, DrS c) ∈ l) (h : ∀ z, Q (.int z) H) : rIxL K (.ref p) (.int 2) H Q := by
  obtain ⟨o, h1, a, b, d, rfl⟩ := st.pick m
  exact ⟨p, _, 2, _, rfl, rfl, SqL.of h1, rfl, h b⟩
theorem ixD3 {p c : Addr} (st : Stt H0 S l H) (m : (p, DrS c) ∈ l) (h : ∀ z, Q (.bl z) H) : rIxL K (.ref p) (.int 3) H Q := by
  obtain ⟨o, h1, a, b, d, rfl⟩ := st.pick m
  exact ⟨p, _, 3, _, rfl, rfl, SqL.of h1, rfl, h d⟩
theorem setD2 {p c : Addr} {z : Int} {Qs : Hp → Prop} (st : Stt H0 S l H) (m : (p, DrS c) ∈ l) (u : Put l p (DrS c) l) (ha : p ∈ S ∨ H0 p = none) (k : ∀ H1, Stt H0 S l H1 → Qs H1) : rSetL (.ref p) (.int 2) (.int z) H Qs := by
  obtain ⟨o, h1, a, b, d, rfl⟩ := st.pick m
  refine ⟨p, _, 2, 2, rfl, rfl, h1, rfl, k _ ?_⟩
  exact { keep := fun x v e => by
            by_cases hx : x = p
            · subst hx
              rcases ha with q | q
              · exact .inr ⟨q, _, upd_same⟩
              · rw [e] at q; cases q
            · rw [upd_ne hx]; exact st.keep x v e
          nd := st.nd
          at_ := fun e me => by
            rcases u.new st.nd e me with q | ⟨q1, q2⟩
            · subst q
              exact ⟨_, upd_same, a, z, d, rfl⟩
            · obtain ⟨v, e1, e2⟩ := st.at_ e q1
              exact ⟨v, by rw [upd_ne q2]; exact e1, e2⟩ }
/-- loops -/
def For (J : It) (g : TG) (tb : TS) (D : Ends) (σ : L2.St) (H : Hp) : Prop := ∃ W : Nat → Nat → L2.St → Hp → Prop, (∃ m, W 0 m σ H) ∧ ∀ i m σ H, W i m σ H →
  (J.stop i H ∧ D.nx σ H) ∨ (J.go i H ∧ ∃ N : L2.St → Hp → Prop, (∀ σ' H', N σ' H' → ∃ m', m' < m ∧ W (i + 1) m' σ' H') ∧ ∀ x H', J.yld i H x H' → g x σ H' fun σ2 H2 => tb { D with nx := N, ct := N, bk := D.nx } σ2 H2)
theorem forS {wi : TI} {g : TG} {tb : TS} (h : wi σ H fun J H1 => For J g tb D σ H1) : tFor wi g tb D σ H := h
theorem loop {J : It} {n : Nat} {G : Hp → Prop} {Y : Nat → Hp → V → Hp → Prop} (w : Walk J n G Y) {g : TG} {tb : TS} (Pv : Nat → L2.St → Hp → Prop) (h0 : Pv 0 σ H) (hG : ∀ i σ H, i ≤ n → Pv i σ H → G H)
    (hs : ∀ i x σ H H', i < n → Pv i σ H → Y i H x H' → g x σ H' fun σ2 H2 => tb { D with nx := Pv (i + 1), ct := Pv (i + 1), bk := D.nx } σ2 H2) (hd : ∀ σ H, Pv n σ H → D.nx σ H) : For J g tb D σ H := for_it w Pv h0 hG hs hd
def WEnT (K : PySem.W.Frag) (vs : List V) (H1 : Hp) (R : It → Hp → Prop) : Prop := ∃ a xs, vs = [.ref a] ∧ SqT K H1 a xs ∧ R (IteT K a) H1
theorem wEnT {ta : TA} {R : It → Hp → Prop} (h : ta σ H fun vs H1 => WEnT K vs H1 R) : iEnumT K ta σ H R := h
theorem wEnTL {p : Addr} {xs : List V} {R : It → Hp → Prop} (st : Stt H0 S l H) (m : (p, Is (.tup xs)) ∈ l) (h : R (IteT K p) H) : WEnT K [.ref p] H R := ⟨p, xs, rfl, st.sqT m, h⟩
def WL (K : PySem.W.Frag) (x : V) (H1 : Hp) (R : It → Hp → Prop) : Prop := ∃ a, x = .ref a ∧ (∃ xs, SqL K H1 a xs) ∧ R (Itl K a) H1
theorem wL {R : It → Hp → Prop} (h : te σ H fun x H1 => WL K x H1 R) : iList K te σ H R := h
theorem wLL {p : Addr} {xs : List V} {R : It → Hp → Prop} (st : Stt H0 S l H) (m : (p, Is (.lst xs)) ∈ l) (h : R (Itl K p) H) : WL K (.ref p) H R := ⟨p, rfl, ⟨xs, st.sqL m⟩, h⟩
def WT (K : PySem.W.Frag) (x : V) (H1 : Hp) (R : It → Hp → Prop) : Prop := ∃ a, x = .ref a ∧ (∃ xs, SqT K H1 a xs) ∧ R (Itt K a) H1
theorem wT {R : It → Hp → Prop} (h : te σ H fun x H1 => WT K x H1 R) : iTup K te σ H R := h
theorem wTL {p : Addr} {xs : List V} {R : It → Hp → Prop} (st : Stt H0 S l H) (m : (p, Is (.tup xs)) ∈ l) (h : R (Itt K p) H) : WT K (.ref p) H R := ⟨p, rfl, ⟨xs, st.sqT m⟩, h⟩
def WR1 (vs : List V) (H1 : Hp) (R : It → Hp → Prop) : Prop := ∃ j : Int, vs = [.int j] ∧ -(2 ^ 62) ≤ j ∧ j < 2 ^ 62 ∧ R (Itr 0 j.toNat) H1
theorem wR1 {ta : TA} {R : It → Hp → Prop} (h : ta σ H fun vs H1 => WR1 vs H1 R) : iRng1 ta σ H R := h
theorem wR1L {z : Int} {R : It → Hp → Prop} (h1 : -(2 ^ 62) ≤ z) (h2 : z < 2 ^ 62) (h : R (Itr 0 z.toNat) H) : WR1 [.int z] H R := ⟨z, rfl, h1, h2, h⟩
def WR2 (vs : List V) (H1 : Hp) (R : It → Hp → Prop) : Prop := ∃ i j : Int, vs = [.int i, .int j] ∧ (-(2 ^ 62) ≤ i ∧ i < 2 ^ 62 ∧ -(2 ^ 62) ≤ j ∧ j < 2 ^ 62) ∧ R (Itr i (j - i).toNat) H1
theorem wR2 {ta : TA} {R : It → Hp → Prop} (h : ta σ H fun vs H1 => WR2 vs H1 R) : iRng2 ta σ H R := h
theorem wR2L {a z : Int} {R : It → Hp → Prop} (h1 : -(2 ^ 62) ≤ a ∧ a < 2 ^ 62 ∧ -(2 ^ 62) ≤ z ∧ z < 2 ^ 62) (h : R (Itr a (z - a).toNat) H) : WR2 [.int a, .int z] H R := ⟨a, z, rfl, h1, h⟩
/-- while, by a measure -/
theorem whileS {c : TT} {tb : TS} (W : Nat → L2.St → Hp → Prop) (m : Nat) (w0 : W m σ H)
    (hs : ∀ m σ H, W m σ H → c σ H fun b H1 => Br b (∃ N : L2.St → Hp → Prop, (∀ σ' H', N σ' H' → ∃ m', m' < m ∧ W m' σ' H') ∧ tb { D with nx := N, ct := N, bk := D.nx } σ H1) (D.nx σ H1)) : tWhile c tb D σ H := ⟨W, ⟨m, w0⟩, hs⟩
end Rd
theorem call_lenQ {X : Cx} : CallR X (.builtin "len") (Rd.rLenQ X.K) := call_len_seq
theorem call_intQ {X : Cx} : CallR X (.type "int") Rd.rIntQ := call_int1
theorem call_absQ {X : Cx} : CallR X (.builtin "abs") Rd.rAbsQ := call_abs
/-! ### the draws' state -/
theorem Stt.drawn {H0 H : Hp} {S : List Addr} {l : Led} {st c : Addr} {ns : List Int} (h : Stt H0 S l H) (m1 : (st, DrS c) ∈ l) (m2 : (c, Is (.lst (ns.map V.int))) ∈ l) : Stt H [st] [(st, DrS c), (c, Is (.lst (ns.map V.int)))] H where
  keep := .refl H
  nd := by
    have n : st ≠ c := h.ne m1 m2 fun o => by
      rintro ⟨nth, val, fl, rfl⟩ q
      have q2 : HO.lst [V.ref c, .int nth, .int val, .bl fl] = HO.lst (ns.map V.int) := q
      injection q2 with q2
      cases ns with
      | nil => cases q2
      | cons a r =>
        injection q2 with q1 q2
        cases q1
    simp [n]
  at_ := fun e m => by
    rcases List.mem_cons.mp m with z | z
    · subst z; exact h.at_ _ m1
    · rw [List.mem_singleton.mp z]; exact h.at_ _ m2
abbrev dled (st c : Addr) (ns : List Int) : Led := [(st, DrS c), (c, Is (.lst (ns.map V.int)))]
end Lt

set_option Elab.async false
set_option linter.all false
set_option maxRecDepth 100000
set_option maxHeartbeats 2000000
namespace Lt
open PySem PySem.Spec PyProof.Rows L2
/-! ### isinstance, instances' fields, numbers of any size -/
section
variable {K : PySem.W.Frag}
theorem kit_int_int : PySem.W.kitOne K (.type "int") (.type "int") = some true := kit_ty (by decide +kernel)
theorem kit_int_bool : PySem.W.kitOne K (.type "int") (.type "bool") = some false := kit_ty (by decide +kernel)
theorem kit_int_str : PySem.W.kitOne K (.type "int") (.type "str") = some false := kit_ty (by decide +kernel)
theorem kit_int_list : PySem.W.kitOne K (.type "int") (.type "list") = some false := kit_ty (by decide +kernel)
theorem kit_int_tuple : PySem.W.kitOne K (.type "int") (.type "tuple") = some false := kit_ty (by decide +kernel)
theorem kit_int_dict : PySem.W.kitOne K (.type "int") (.type "dict") = some false := kit_ty (by decide +kernel)
theorem kit_bool_int : PySem.W.kitOne K (.type "bool") (.type "int") = some true := kit_ty (by decide +kernel)
theorem kit_bool_bool : PySem.W.kitOne K (.type "bool") (.type "bool") = some true := kit_ty (by decide +kernel)
theorem kit_bool_str : PySem.W.kitOne K (.type "bool") (.type "str") = some false := kit_ty (by decide +kernel)
theorem kit_bool_list : PySem.W.kitOne K (.type "bool") (.type "list") = some false := kit_ty (by decide +kernel)
theorem kit_bool_tuple : PySem.W.kitOne K (.type "bool") (.type "tuple") = some false := kit_ty (by decide +kernel)
theorem kit_bool_dict : PySem.W.kitOne K (.type "bool") (.type "dict") = some false := kit_ty (by decide +kernel)
theorem kit_str_int : PySem.W.kitOne K (.type "str") (.type "int") = some false := kit_ty (by decide +kernel)
theorem kit_str_bool : PySem.W.kitOne K (.type "str") (.type "bool") = some false := kit_ty (by decide +kernel)
theorem kit_str_str : PySem.W.kitOne K (.type "str") (.type "str") = some true := kit_ty (by decide +kernel)
theorem kit_str_list : PySem.W.kitOne K (.type "str") (.type "list") = some false := kit_ty (by decide +kernel)
theorem kit_str_tuple : PySem.W.kitOne K (.type "str") (.type "tuple") = some false := kit_ty (by decide +kernel)
theorem kit_str_dict : PySem.W.kitOne K (.type "str") (.type "dict") = some false := kit_ty (by decide +kernel)
theorem kit_list_int : PySem.W.kitOne K (.type "list") (.type "int") = some false := kit_ty (by decide +kernel)
theorem kit_list_bool : PySem.W.kitOne K (.type "list") (.type "bool") = some false := kit_ty (by decide +kernel)
theorem kit_list_str : PySem.W.kitOne K (.type "list") (.type "str") = some false := kit_ty (by decide +kernel)
theorem kit_list_list : PySem.W.kitOne K (.type "list") (.type "list") = some true := kit_ty (by decide +kernel)
theorem kit_list_tuple : PySem.W.kitOne K (.type "list") (.type "tuple") = some false := kit_ty (by decide +kernel)
theorem kit_list_dict : PySem.W.kitOne K (.type "list") (.type "dict") = some false := kit_ty (by decide +kernel)
theorem kit_tuple_int : PySem.W.kitOne K (.type "tuple") (.type "int") = some false := kit_ty (by decide +kernel)
theorem kit_tuple_bool : PySem.W.kitOne K (.type "tuple") (.type "bool") = some false := kit_ty (by decide +kernel)
theorem kit_tuple_str : PySem.W.kitOne K (.type "tuple") (.type "str") = some false := kit_ty (by decide +kernel)
theorem kit_tuple_list : PySem.W.kitOne K (.type "tuple") (.type "list") = some false := kit_ty (by decide +kernel)
theorem kit_tuple_tuple : PySem.W.kitOne K (.type "tuple") (.type "tuple") = some true := kit_ty (by decide +kernel)
theorem kit_tuple_dict : PySem.W.kitOne K (.type "tuple") (.type "dict") = some false := kit_ty (by decide +kernel)
theorem kit_dict_int : PySem.W.kitOne K (.type "dict") (.type "int") = some false := kit_ty (by decide +kernel)
theorem kit_dict_bool : PySem.W.kitOne K (.type "dict") (.type "bool") = some false := kit_ty (by decide +kernel)
theorem kit_dict_str : PySem.W.kitOne K (.type "dict") (.type "str") = some false := kit_ty (by decide +kernel)
theorem kit_dict_list : PySem.W.kitOne K (.type "dict") (.type "list") = some false := kit_ty (by decide +kernel)
theorem kit_dict_tuple : PySem.W.kitOne K (.type "dict") (.type "tuple") = some false := kit_ty (by decide +kernel)
theorem kit_dict_dict : PySem.W.kitOne K (.type "dict") (.type "dict") = some true := kit_ty (by decide +kernel)
theorem kit_NoneType_int : PySem.W.kitOne K (.type "NoneType") (.type "int") = some false := kit_ty (by decide +kernel)
theorem kit_NoneType_bool : PySem.W.kitOne K (.type "NoneType") (.type "bool") = some false := kit_ty (by decide +kernel)
theorem kit_NoneType_str : PySem.W.kitOne K (.type "NoneType") (.type "str") = some false := kit_ty (by decide +kernel)
theorem kit_NoneType_list : PySem.W.kitOne K (.type "NoneType") (.type "list") = some false := kit_ty (by decide +kernel)
theorem kit_NoneType_tuple : PySem.W.kitOne K (.type "NoneType") (.type "tuple") = some false := kit_ty (by decide +kernel)
theorem kit_NoneType_dict : PySem.W.kitOne K (.type "NoneType") (.type "dict") = some false := kit_ty (by decide +kernel)
end
/-- what isinstance asks of an own class -/
structure InsT (K : PySem.W.Frag) (C : Addr) : Prop where
  cl : Cls K C
  ca : PySem.W.findIn K (.ref C) "__class__" = some (some (.builtin "object.__class__"))
  cn : PySem.W.specialIn K (.builtin "object.__class__") "__get__" = some (some (.builtin "getset_descriptor.__get__"))
  ct : PySem.W.takesIn K (.builtin "object.__class__") = some true
  cm : PySem.W.mroIn K C (.type "object") = some true
def insTB (K : PySem.W.Frag) (C : Addr) : Bool := decide (PySem.W.findIn K (.ref C) "__class__" = some (some (.builtin "object.__class__"))) && (decide (PySem.W.specialIn K (.builtin "object.__class__") "__get__" = some (some (.builtin "getset_descriptor.__get__"))) &&
  (decide (PySem.W.takesIn K (.builtin "object.__class__") = some true) && decide (PySem.W.mroIn K C (.type "object") = some true)))
theorem insT_of {K : PySem.W.Frag} {C : Addr} (c : Cls K C) (h : insTB K C = true) : InsT K C := by
  obtain ⟨h1, h⟩ := He.ba h
  obtain ⟨h2, h⟩ := He.ba h
  obtain ⟨h3, h4⟩ := He.ba h
  exact ⟨c, of_decide_eq_true h1, of_decide_eq_true h2, of_decide_eq_true h3, of_decide_eq_true h4⟩
theorem InsT.ty {K : PySem.W.Frag} {C a dx : Addr} {fs : List (Str × V)} {H : Hp} (T : InsT K C) (e : H a = some (.ins C dx fs)) : TyX K H (.ref a) (.ref C) := .base (.ins e T.cl T.ca T.cn T.ct T.cm)
namespace Rd
variable {K : PySem.W.Frag} {D : Ends} {σ : L2.St} {H H0 : Hp} {Q : VK} {S : List Addr} {l l' : Led} {te ta : TE} {x y v c : V} {t u : Value} {b : Bool}
theorem isi (ty : TyX K H x t) (cv : ClsV c u) (e : PySem.W.kitOne K t u = some b) (h : Q (.bl b) H) : rIsi K [x, c] H Q := ⟨x, c, t, u, b, rfl, cv, ty, e, h⟩
theorem isiT {p : Addr} {cs : List V} {us : List Value} (st : Stt H0 S l H) (m : (p, Is (.tup cs)) ∈ l) (ty : TyX K H x t) (cv : Paired ClsV cs us) (e : PySem.W.kitAny K t us = some b) (h : Q (.bl b) H) : rIsiT K [x, .ref p] H Q := ⟨x, p, cs, t, us, b, rfl, st.get m, cv, ty, e, h⟩
def Fld (K : PySem.W.Frag) (f : Str) (x : V) (H1 : Hp) (Q : VK) : Prop := ∃ a C dx fs v, x = .ref a ∧ H1 a = some (.ins C dx fs) ∧ Cls K C ∧ NoAttr K C f ∧ fs.lookup f = some v ∧ Q v H1
theorem fld {f : Str} (h : ta σ H fun x H1 => Fld K f x H1 Q) : tFld K ta f σ H Q := h
theorem fldI {f : Str} {p C dx : Addr} {fs : List (Str × V)} (st : Stt H0 S l H) (m : (p, Is (.ins C dx fs)) ∈ l) (c : Cls K C) (n : NoAttr K C f) (e : fs.lookup f = some v) (h : Q v H) : Fld K f (.ref p) H Q := ⟨p, C, dx, fs, v, rfl, st.get m, c, n, e, h⟩
def SFld (K : PySem.W.Frag) (f : Str) (x y : V) (H2 : Hp) (Qs : Hp → Prop) : Prop := ∃ a C dx fs, x = .ref a ∧ H2 a = some (.ins C dx fs) ∧ Cls K C ∧ NoAttr K C f ∧ fs.length < 1000 ∧ Qs (upd H2 a (.ins C dx (putF f y fs)))
theorem sfld {f : Str} {tv : TE} (h : tv σ H fun y H1 => ta σ H1 fun x H2 => SFld K f x y H2 fun H3 => D.nx σ H3) : sFld K ta tv f D σ H := h
theorem sfldI {f : Str} {p C dx : Addr} {fs : List (Str × V)} {Qs : Hp → Prop} (st : Stt H0 S l H) (m : (p, Is (.ins C dx fs)) ∈ l) (c : Cls K C) (n : NoAttr K C f) (hz : fs.length < 1000) (u : Put l p (Is (.ins C dx (putF f y fs))) l') (ha : p ∈ S ∨ H0 p = none)
    (k : ∀ H1, Stt H0 S l' H1 → Qs H1) : SFld K f (.ref p) y H Qs := ⟨p, C, dx, fs, rfl, st.get m, c, n, hz, k _ (st.set u ha)⟩
/-- C(..) -/
def Make (C : Addr) (sp : Sp) (dvs : List V) (E : XK) (vs : List V) (H1 : Hp) (Q : VK) : Prop := ∀ x dx, H1 x = none → H1 dx = none → dx ≠ x → sp (.ref x :: (vs ++ dvs)) (upd (upd H1 dx (.own x)) x (.ins C dx [])) (fun v H2 => v = .non ∧ Q (.ref x) H2) E
theorem make {C : Addr} {sp : Sp} {dvs : List V} {E : XK} {ta : TA} (h : ta σ H fun vs H1 => Make C sp dvs E vs H1 Q) : tMake C sp dvs E ta σ H Q := h
def MakeN (C : Addr) (n m : Nat) (sp : Sp) (gV : List V → List V → List V) (E : XK) (vs zs : List V) (H2 : Hp) (Q : VK) : Prop := vs.length = n ∧ zs.length = m ∧
  ∀ x dx, H2 x = none → H2 dx = none → dx ≠ x → sp (gV (.ref x :: vs) zs) (upd (upd H2 dx (.own x)) x (.ins C dx [])) (fun v H3 => v = .non ∧ Q (.ref x) H3) E
theorem gcd {a b : Int} (h : Q (.int (Int.gcd a b : Int)) H) : rGcd [.int a, .int b] H Q := ⟨a, b, rfl, h⟩
end Rd
/-- // by a divisor of either sign and many bits -/
def CDivZ (_ j : Int) : Prop := j ≠ 0 ∧ j.natAbs.log2 < 9000
theorem op_fdivZ {X : Cx} : OpR X (binaryOp .FloorDiv) (rI CDivZ fun i j => .int (i.fdiv j)) := opI fun i j _ _ _ _ _ hc q => floordiv_int hc.1 q (.inl (PyProof.noPylong_of_log2 hc.2))
theorem wide_divZ {i j : Int} {b : Nat} (h : j ≠ 0) (hb : j.natAbs < 2 ^ b) (h0 : 0 < b) (h9 : b ≤ 9000) : CDivZ i j := ⟨h, Nat.lt_of_lt_of_le (PySem.Flt.log2_lt_of h0 hb) h9⟩
theorem RelT.ref {a : Addr} : RelV (.ref a) (.ref a) := rfl
section
variable {X : Cx} {CX : CXT} {k : Nat} {f C : Addr} {fd : FuncData} {ps : List Str} {sp : Sp} {E : XK} {x : Str} {p pos : Pos} {e : Expr} {es : List Expr} {t : TA} {dvs : List V}
theorem pe_makeX (M : Mk X.K C f) (F : FnOk X.prog X.w X.K X.mg X.base CX k f fd ps sp) (hr : Room (k + 1) X.A) (hg : Gl X x) (hm : X.mg x = some (.ref C)) (hb : ∃ ds, Vals dvs ds ∧ Binds X.K fd ps ds) (hx : Passes CX X E) (ha : PA X (e :: es) t)
    (hdb : (x == ("__debug__" : Str)) = false := by decide) (he : starEach (e :: es) X.env = (false, eval e X.env) :: starEach es X.env := by rfl) (hpl : (backTo pos (starEach es X.env)).any (·.1) = false := by rfl) :
    PE X (.Call (.Name x p) (e :: es) [] pos) (tMake C sp dvs E t) := by
  obtain ⟨ds, h1, h2⟩ := hb
  exact pe_make M F hr hg hm h2 h1 hx ha hdb he hpl
theorem pe_callX (F : FnOk X.prog X.w X.K X.mg X.base CX k f fd ps sp) (hr : Room k X.A) (hg : Gl X x) (hm : X.mg x = some (.ref f)) (hk : PySem.W.keepIn X.K (.ref f) = true) (hb : ∃ ds, Vals dvs ds ∧ Binds X.K fd ps ds) (hx : Passes CX X E) (ha : PA X (e :: es) t)
    (hdb : (x == ("__debug__" : Str)) = false := by decide) (he : starEach (e :: es) X.env = (false, eval e X.env) :: starEach es X.env := by rfl) (hpl : (backTo pos (starEach es X.env)).any (·.1) = false := by rfl) :
    PE X (.Call (.Name x p) (e :: es) [] pos) (tCall sp dvs E t) := by
  obtain ⟨ds, h1, h2⟩ := hb
  exact pe_call F hr hg hm hk h2 h1 hx ha hdb he hpl
end
theorem putF_len (f : Str) (v : V) : ∀ fs : List (Str × V), (putF f v fs).length ≤ fs.length + 1
  | [] => Nat.le_refl _
  | q :: r => by
    unfold putF
    split
    · simp
    · have := putF_len f v r
      simp only [List.length_cons]
      omega
/-! ### numbers in lowest terms -/
def nO (a b : Int) : Int := (if b < 0 then -a else a) / (Int.gcd a b : Int)
def nU (a b : Int) : Int := (if b < 0 then -b else b) / (Int.gcd a b : Int)
theorem nO_neg {a b : Int} (h : b < 0) : a.fdiv (-(Int.gcd a b : Int)) = nO a b := by
  unfold nO
  rw [if_pos h, ← Int.neg_fdiv_neg, Int.neg_neg, Int.fdiv_eq_ediv_of_nonneg _ (by omega)]
theorem nU_neg {a b : Int} (h : b < 0) : b.fdiv (-(Int.gcd a b : Int)) = nU a b := by
  unfold nU
  rw [if_pos h, ← Int.neg_fdiv_neg, Int.neg_neg, Int.fdiv_eq_ediv_of_nonneg _ (by omega)]
theorem nO_pos {a b : Int} (h : ¬ b < 0) : a.fdiv (Int.gcd a b : Int) = nO a b := by
  unfold nO
  rw [if_neg h, Int.fdiv_eq_ediv_of_nonneg _ (by omega)]
theorem nU_pos {a b : Int} (h : ¬ b < 0) : b.fdiv (Int.gcd a b : Int) = nU a b := by
  unfold nU
  rw [if_neg h, Int.fdiv_eq_ediv_of_nonneg _ (by omega)]
end Lt

set_option Elab.async false
set_option linter.all false
set_option maxRecDepth 100000
set_option maxHeartbeats 2000000
namespace Lt
open PySem PySem.Spec PyProof.Rows L2
/-- a def that is never called -/
theorem fnok_false {P : Program} {w : World} {K : PySem.W.Frag} {mg : Str → Option Value} {base : Heap} {CX : CXT} {k : Nat} {f : Addr} {fd : FuncData} {ps : List Str} : FnOk P w K mg base CX k f fd ps (fun _ _ _ _ => False) :=
  ⟨fun _ _ _ _ h => h.elim, fun _ _ _ _ _ _ _ _ _ _ _ _ _ h => h.elim⟩
namespace Rd
variable {K : PySem.W.Frag} {D : Ends} {σ : L2.St} {H H0 : Hp} {Q : VK} {S : List Addr} {l l' : Led} {te ta : TE} {x y v c : V} {t u : Value} {b : Bool}
/-! ### comprehensions -/
def Lc (J : It) (g : TG) (tt : TT) (te : TE) (vs : List Nat) (σ : L2.St) (H1 : Hp) (Q : VK) : Prop := ∀ D, H1 D = none → ∃ W : Nat → Nat → Hp → Prop, (∃ m, W 0 m (upd H1 D (.lst []))) ∧ ∀ i m H, W i m H →
  (J.stop i H ∧ Q (.ref D) H) ∨ (J.go i H ∧ ∃ Nx : Hp → Prop, (∀ H', Nx H' → ∃ m', m' < m ∧ W (i + 1) m' H') ∧ ∀ x H', J.yld i H x H' → g x (wipe σ vs) H' fun σ2 H2 => wipe σ2 vs = wipe σ vs ∧ tt σ2 H2 fun b H3 =>
    if b = true then te σ2 H3 fun y H4 => ∃ acc, H4 D = some (.lst acc) ∧ acc.length < sizeLine ∧ Nx (upd H4 D (.lst (acc ++ [y]))) else Nx H3)
theorem lc {wi : TI} {g : TG} {tt : TT} {te : TE} {vs : List Nat} (h : wi σ H fun J H1 => Lc J g tt te vs σ H1 Q) : tLc wi g tt te vs σ H Q := h
/-- between two turns: the list at D holds acc; further objects ex -/
def PvG (H0 : Hp) (S : List Addr) (l : Led) (Good : Nat → List V → Led → Prop) (D : Addr) (i : Nat) (H : Hp) : Prop := ∃ acc ex, Good i acc ex ∧ acc.length ≤ i ∧ Stt H0 S ((D, Is (.lst acc)) :: (ex ++ l)) H
def LcP (H0 : Hp) (S : List Addr) (l : Led) (Good : Nat → List V → Led → Prop) (D : Addr) (i : Nat) (y : V) (H4 : Hp) : Prop := ∃ acc, H4 D = some (.lst acc) ∧ acc.length < sizeLine ∧ PvG H0 S l Good D (i + 1) (upd H4 D (.lst (acc ++ [y])))
theorem lcE {Good : Nat → List V → Led → Prop} {D : Addr} {i : Nat} {acc : List V} {ex : Led} (st : Stt H0 S ((D, Is (.lst acc)) :: (ex ++ l)) H) (hD : H0 D = none) (hi : i < 100000) (ha : acc.length ≤ i) (g : Good (i + 1) (acc ++ [y]) ex) : LcP H0 S l Good D i y H :=
  ⟨acc, st.get List.mem_cons_self, Nat.lt_of_le_of_lt ha (Nat.lt_trans hi (by decide)), acc ++ [y], ex, g, by simp; omega, st.set .head (.inr hD)⟩
theorem lcG {J : It} {n : Nat} {G : Hp → Prop} {Y : Nat → Hp → V → Hp → Prop} (w : Walk J n G Y) {g : TG} {tt : TT} {te : TE} {vs : List Nat} (st : Stt H0 S l H) (Good : Nat → List V → Led → Prop) (g0 : Good 0 [] [])
    (hG : ∀ H' D acc ex, H0 D = none → Stt H0 S ((D, Is (.lst acc)) :: (ex ++ l)) H' → G H')
    (hs : ∀ D, H0 D = none → ∀ i x H1 H2 acc ex, i < n → Good i acc ex → acc.length ≤ i → Stt H0 S ((D, Is (.lst acc)) :: (ex ++ l)) H1 → Y i H1 x H2 → g x (wipe σ vs) H2 fun σ2 H2 => wipe σ2 vs = wipe σ vs ∧ tt σ2 H2 fun b H3 =>
      Br b (te σ2 H3 fun y H4 => LcP H0 S l Good D i y H4) (PvG H0 S l Good D (i + 1) H3))
    (hd : ∀ D H1 acc ex, H0 D = none → Good n acc ex → Stt H0 S ((D, Is (.lst acc)) :: (ex ++ l)) H1 → Q (.ref D) H1) : Lc J g tt te vs σ H Q := by
  intro D hD
  have hD0 := st.none hD
  refine lc_it w (PvG H0 S l Good D) ⟨[], [], g0, Nat.le_refl _, st.new hD _⟩ (fun i H' _ p => ?_) ?_ ?_
  · obtain ⟨acc, ex, _, _, q⟩ := p
    exact hG H' D acc ex hD0 q
  · rintro i x H1 H2 hi ⟨acc, ex, gd, ha, q⟩ y
    exact hs D hD0 i x H1 H2 acc ex hi gd ha q y
  · rintro H1 ⟨acc, ex, gd, _, q⟩
    exact hd D H1 acc ex hD0 gd q
def WZ (K : PySem.W.Frag) (vs : List V) (H1 : Hp) (R : It → Hp → Prop) : Prop := ∃ a b xs ys, vs = [.ref a, .ref b] ∧ ((SqL K H1 a xs ∧ SqL K H1 b ys ∧ R (Itz K a b) H1) ∨ (SqT K H1 a xs ∧ SqT K H1 b ys ∧ R (RZ.ItzT K a b) H1))
theorem wZ {ta : TA} {R : It → Hp → Prop} (h : ta σ H fun vs H1 => WZ K vs H1 R) : RZ.iZipA K ta σ H R := h
def tYesH {Q : Bool → Hp → Prop} (h : Q true H) : tYes σ H Q := h
def rAllQ (K : PySem.W.Frag) : List V → Hp → VK → Prop := fun vs H Q => ∃ (a : Addr) (bs : List Bool), vs = [V.ref a] ∧ SqL K H a (bs.map V.bl) ∧ Q (.bl (bs.all id)) H
theorem allL {p : Addr} {bs : List Bool} (st : Stt H0 S l H) (m : (p, Is (.lst (bs.map V.bl))) ∈ l) (h : Q (.bl (bs.all id)) H) : rAll K [.ref p] H Q := ⟨p, bs, rfl, st.sqL m, h⟩
theorem anyL {p : Addr} {bs : List Bool} (st : Stt H0 S l H) (m : (p, Is (.lst (bs.map V.bl))) ∈ l) (h : Q (.bl (bs.any id)) H) : rAny K [.ref p] H Q := ⟨p, bs, rfl, st.sqL m, h⟩
/-! ### texts -/
def rStrQ : List V → Hp → VK → Prop := fun xs H Q => ∃ i, xs = [.int i] ∧ i.natAbs.log2 < 1920 ∧ Q (.str (toString i)) H
theorem strI {i : Int} (hz : i.natAbs.log2 < 1920) (h : Q (.str (toString i)) H) : rStrQ [.int i] H Q := ⟨i, rfl, hz, h⟩
def Js (ts : List TE) (acc : Str) (σ : L2.St) (H : Hp) (Q : VK) : Prop := tJs ts acc σ H fun out H1 => Q (.str out) H1
def JsL (ts : List TE) (acc : Str) (σ : L2.St) (x : V) (H1 : Hp) (Q : VK) : Prop := ∃ y : Str, x = .str y ∧ (acc ++ y).length ≤ sizeLine ∧ tJs ts (acc ++ y) σ H1 fun out H1 => Q (.str out) H1
theorem joined {ts : List TE} (h : Js ts Str.empty σ H Q) : (fun (σ : L2.St) (H : Hp) (Q : VK) => tJs ts Str.empty σ H fun out H1 => Q (.str out) H1) σ H Q := h
theorem jsNil {acc : Str} (h : Q (.str acc) H) : Js [] acc σ H Q := h
theorem jsCons {t : TE} {ts : List TE} {acc : Str} (h : t σ H fun x H1 => JsL ts acc σ x H1 Q) : Js (t :: ts) acc σ H Q := h
theorem jsL {ts : List TE} {acc y : Str} (hz : (acc ++ y).length ≤ sizeLine) (h : Js ts (acc ++ y) σ H Q) : JsL ts acc σ (.str y) H Q := ⟨y, rfl, hz, h⟩
def FmtL (x : V) (H1 : Hp) (Q : VK) : Prop := (∃ y : Str, x = .str y ∧ y.length ≤ sizeLine ∧ Q (.str y) H1) ∨ ∃ i : Int, x = .int i ∧ i.natAbs.log2 < 1920 ∧ Q (.str (toString i)) H1
theorem fmt (h : te σ H fun x H1 => FmtL x H1 Q) : tFmt te σ H Q := h
theorem fmtI {i : Int} (hz : i.natAbs.log2 < 1920) (h : Q (.str (toString i)) H) : FmtL (.int i) H Q := .inr ⟨i, rfl, hz, h⟩
theorem fmtS {y : Str} (hz : y.length ≤ sizeLine) (h : Q (.str y) H) : FmtL (.str y) H Q := .inl ⟨y, rfl, hz, h⟩
/-- == of two written data -/
theorem eqD {d e : PyData} (h1 : Dp K H x d) (h2 : Dp K H y e) (s1 : SeqAt.shaped d = true) (s2 : SeqAt.shaped e = true) (h : Q (.bl (PyData.eqv d e)) H) : rEqD K x y H Q := ⟨d, e, h1, h2, s1, s2, h⟩
end Rd
theorem call_strQ {X : Cx} : CallR X (.type "str") Rd.rStrQ := call_str_int
theorem walk_zipT {K : PySem.W.Frag} {a b : Addr} {xs ys : List V} {n : Nat} (hn : n = min xs.length ys.length) : Walk (RZ.ItzT K a b) n (fun H => SqT K H a xs ∧ SqT K H b ys) (YPair (fun i => xs[i]?) (fun i => ys[i]?)) := by
  subst hn
  refine ⟨fun i _ hi q => ?_, fun _ q => ⟨xs, ys, q.1, q.2, by omega⟩, fun i H v H' _ q y => ?_⟩
  · have h1 : i < xs.length := by omega
    have h2 : i < ys.length := by omega
    exact ⟨xs, ys, xs[i], ys[i], q.1, q.2, by simp [h1], by simp [h2]⟩
  · obtain ⟨T, x, z, h1, h2, h3, h4, h5⟩ := y
    exact ⟨T, x, z, h1, h2, h3, h4 xs q.1, h5 ys q.2⟩
theorem Kp.seqT {S : List Addr} {K : PySem.W.Frag} {H H' : Hp} {l : Addr} {xs : List V} (a : Kp S H H') (hl : l ∉ S) (h : SqT K H l xs) : SqT K H' l xs := by
  rcases h with (h | ⟨o, h⟩) | h
  · exact .inl (.inl (a.get hl h))
  · exact .inl (.inr ⟨o, a.get hl h⟩)
  · exact .inr h
mutual
theorem dp_kp {K : PySem.W.Frag} {H H' : Hp} (k : Kp [] H H') : ∀ {v : V} {d : PyData}, Dp K H v d → Dp K H' v d
  | _, _, .non => .non
  | _, _, .bl b => .bl b
  | _, _, .int i => .int i
  | _, _, .str x => .str x
  | _, _, .lst h r => .lst (k.seqL (by simp) h) (dpAll_kp k r)
  | _, _, .tup h r => .tup (k.seqT (by simp) h) (dpAll_kp k r)
theorem dpAll_kp {K : PySem.W.Frag} {H H' : Hp} (k : Kp [] H H') : ∀ {vs : List V} {ds : List PyData}, DpAll K H vs ds → DpAll K H' vs ds
  | _, _, .nil => .nil
  | _, _, .cons a r => .cons (dp_kp k a) (dpAll_kp k r)
end
theorem depth_mem {d : PyData} : ∀ {ds : List PyData} {i : Nat}, ds[i]? = some d → d.depth ≤ PyData.depthAll ds
  | e :: r, 0, h => by
    simp at h
    subst h
    exact Nat.le_max_left _ _
  | e :: r, i + 1, h => by
    simp at h
    exact Nat.le_trans (depth_mem h) (Nat.le_max_right _ _)
theorem weight_mem {d : PyData} : ∀ {ds : List PyData} {i : Nat}, ds[i]? = some d → d.weight ≤ PyData.weightAll ds
  | e :: r, 0, h => by
    simp at h
    subst h
    show e.weight ≤ e.weight + 1 + PyData.weightAll r
    omega
  | e :: r, i + 1, h => by
    simp at h
    have := weight_mem h
    show d.weight ≤ e.weight + 1 + PyData.weightAll r
    omega
theorem weight_len : ∀ (ds : List PyData), ds.length ≤ PyData.weightAll ds
  | [] => Nat.le_refl _
  | e :: r => by
    have := weight_len r
    show r.length + 1 ≤ e.weight + 1 + PyData.weightAll r
    omega
theorem DpAll.len {K : PySem.W.Frag} {H : Hp} : ∀ {vs : List V} {ds : List PyData}, DpAll K H vs ds → vs.length = ds.length
  | _, _, .nil => rfl
  | _, _, .cons _ r => congrArg Nat.succ (DpAll.len r)
theorem DpAll.at {K : PySem.W.Frag} {H : Hp} : ∀ {vs : List V} {ds : List PyData} {i : Nat} {v : V}, DpAll K H vs ds → vs[i]? = some v → ∃ d, ds[i]? = some d ∧ Dp K H v d
  | _, _, 0, _, .cons a r, h => by
    simp at h
    subst h
    exact ⟨_, rfl, a⟩
  | _, _, i + 1, _, .cons a r, h => by
    simp at h
    obtain ⟨d, h1, h2⟩ := DpAll.at r h
    exact ⟨d, by simpa using h1, h2⟩
section
variable {K : PySem.W.Frag}
theorem kitA_lt_int : PySem.W.kitAny K (.type "int") [.type "list", .type "tuple"] = some false := kitAny_cons kit_int_list (fun _ => kitAny_cons kit_int_tuple (fun _ => kitAny_nil) (fun h => by cases h)) (fun h => by cases h)
theorem kitA_bilt_int : PySem.W.kitAny K (.type "int") [.type "bool", .type "int", .type "list", .type "tuple"] = some true := by
  refine kitAny_cons kit_int_bool ?_ ?_ <;> intro h <;> first | (cases h; done) | rfl | (refine kitAny_cons kit_int_int ?_ ?_ <;> intro h <;> first | (cases h; done) | rfl | exact kitA_lt_int)
theorem kitA_lt_bool : PySem.W.kitAny K (.type "bool") [.type "list", .type "tuple"] = some false := kitAny_cons kit_bool_list (fun _ => kitAny_cons kit_bool_tuple (fun _ => kitAny_nil) (fun h => by cases h)) (fun h => by cases h)
theorem kitA_bilt_bool : PySem.W.kitAny K (.type "bool") [.type "bool", .type "int", .type "list", .type "tuple"] = some true := by
  refine kitAny_cons kit_bool_bool ?_ ?_ <;> intro h <;> first | (cases h; done) | rfl | (refine kitAny_cons kit_bool_int ?_ ?_ <;> intro h <;> first | (cases h; done) | rfl | exact kitA_lt_bool)
theorem kitA_lt_str : PySem.W.kitAny K (.type "str") [.type "list", .type "tuple"] = some false := kitAny_cons kit_str_list (fun _ => kitAny_cons kit_str_tuple (fun _ => kitAny_nil) (fun h => by cases h)) (fun h => by cases h)
theorem kitA_bilt_str : PySem.W.kitAny K (.type "str") [.type "bool", .type "int", .type "list", .type "tuple"] = some false := by
  refine kitAny_cons kit_str_bool ?_ ?_ <;> intro h <;> first | (cases h; done) | rfl | (refine kitAny_cons kit_str_int ?_ ?_ <;> intro h <;> first | (cases h; done) | rfl | exact kitA_lt_str)
theorem kitA_lt_list : PySem.W.kitAny K (.type "list") [.type "list", .type "tuple"] = some true := kitAny_cons kit_list_list (fun h => by cases h) (fun _ => rfl)
theorem kitA_bilt_list : PySem.W.kitAny K (.type "list") [.type "bool", .type "int", .type "list", .type "tuple"] = some true := by
  refine kitAny_cons kit_list_bool ?_ ?_ <;> intro h <;> first | (cases h; done) | rfl | (refine kitAny_cons kit_list_int ?_ ?_ <;> intro h <;> first | (cases h; done) | rfl | exact kitA_lt_list)
theorem kitA_lt_tuple : PySem.W.kitAny K (.type "tuple") [.type "list", .type "tuple"] = some true := kitAny_cons kit_tuple_list (fun _ => kitAny_cons kit_tuple_tuple (fun h => by cases h) (fun _ => rfl)) (fun h => by cases h)
theorem kitA_bilt_tuple : PySem.W.kitAny K (.type "tuple") [.type "bool", .type "int", .type "list", .type "tuple"] = some true := by
  refine kitAny_cons kit_tuple_bool ?_ ?_ <;> intro h <;> first | (cases h; done) | rfl | (refine kitAny_cons kit_tuple_int ?_ ?_ <;> intro h <;> first | (cases h; done) | rfl | exact kitA_lt_tuple)
theorem kitA_lt_dict : PySem.W.kitAny K (.type "dict") [.type "list", .type "tuple"] = some false := kitAny_cons kit_dict_list (fun _ => kitAny_cons kit_dict_tuple (fun _ => kitAny_nil) (fun h => by cases h)) (fun h => by cases h)
theorem kitA_bilt_dict : PySem.W.kitAny K (.type "dict") [.type "bool", .type "int", .type "list", .type "tuple"] = some false := by
  refine kitAny_cons kit_dict_bool ?_ ?_ <;> intro h <;> first | (cases h; done) | rfl | (refine kitAny_cons kit_dict_int ?_ ?_ <;> intro h <;> first | (cases h; done) | rfl | exact kitA_lt_dict)
theorem kitA_lt_NoneType : PySem.W.kitAny K (.type "NoneType") [.type "list", .type "tuple"] = some false := kitAny_cons kit_NoneType_list (fun _ => kitAny_cons kit_NoneType_tuple (fun _ => kitAny_nil) (fun h => by cases h)) (fun h => by cases h)
theorem kitA_bilt_NoneType : PySem.W.kitAny K (.type "NoneType") [.type "bool", .type "int", .type "list", .type "tuple"] = some false := by
  refine kitAny_cons kit_NoneType_bool ?_ ?_ <;> intro h <;> first | (cases h; done) | rfl | (refine kitAny_cons kit_NoneType_int ?_ ?_ <;> intro h <;> first | (cases h; done) | rfl | exact kitA_lt_NoneType)
end
theorem sqL_ty {K : PySem.W.Frag} {H : Hp} {a : Addr} {xs : List V} (h : SqL K H a xs) : TyX K H (.ref a) (.type "list") := by
  rcases h with (h | ⟨o, h⟩) | ⟨o, its, n, h1, h2, _⟩
  · exact .base (.lst h)
  · exact .base (.frz h)
  · exact .kList h1 h2
theorem sqT_ty {K : PySem.W.Frag} {H : Hp} {a : Addr} {xs : List V} (h : SqT K H a xs) : TyX K H (.ref a) (.type "tuple") := by
  rcases h with (h | ⟨o, h⟩) | ⟨o, its, n, h1, h2, _⟩
  · exact .base (.tup h)
  · exact .fTuple h
  · exact .kTuple h1 h2
theorem Stt.upL {K : PySem.W.Frag} {H0 H : Hp} {S : List Addr} {l : Led} {a : Addr} {xs : List V} (s : Stt H0 S l H) (h : SqL K H0 a xs) (n : a ∉ S := by exact List.not_mem_nil) : SqL K H a xs := s.keep.seqL n h
theorem Stt.upT {K : PySem.W.Frag} {H0 H : Hp} {S : List Addr} {l : Led} {a : Addr} {xs : List V} (s : Stt H0 S l H) (h : SqT K H0 a xs) (n : a ∉ S := by exact List.not_mem_nil) : SqT K H a xs := s.keep.seqT n h
namespace Rd
variable {K : PySem.W.Frag} {H H0 : Hp} {Q : VK} {l : Led}
theorem wp {a c : L2.St} {b d : List Nat} {G : Prop} (e : wipe a b = wipe c d) (h : G) : wipe a b = wipe c d ∧ G := ⟨e, h⟩
theorem makeK {σ : L2.St} {C : Addr} {n m : Nat} {sp : Sp} {gV : List V → List V → List V} {E : XK} {t tk : TA} (h : t σ H fun vs H1 => tk σ H1 fun zs H2 => MakeN C n m sp gV E vs zs H2 Q) : tMakeK C n m sp gV E t tk σ H Q := h
def DNew (H : Hp) (Q : VK) : Prop := ∀ d, H d = none → Q (.ref d) (upd H d (.dK []))
theorem dnew {σ : L2.St} (h : DNew H Q) : tDNewK σ H Q := h
theorem dnewL {S : List Addr} (st : Stt H0 S l H) (k : ∀ p H1, H0 p = none → Stt H0 S ((p, Is (.dK [])) :: l) H1 → Q (.ref p) H1) : DNew H Q := fun p hp => k p _ (st.none hp) (st.new hp _)
def MethL (C : Addr) (m : Str) (sp : Sp) (dvs : List V) (E : XK) (t : TA) (σ : L2.St) (x : V) (H1 : Hp) (Q : VK) : Prop := ∃ a dx fs, x = .ref a ∧ H1 a = some (.ins C dx fs) ∧ fs.lookup m = none ∧
  t σ H1 fun vs H2 => sp (x :: (vs ++ dvs)) H2 Q E
theorem meth {σ : L2.St} {C : Addr} {m : Str} {sp : Sp} {dvs : List V} {E : XK} {ta : TE} {t : TA} (h : ta σ H fun x H1 => MethL C m sp dvs E t σ x H1 Q) : tMeth C m sp dvs E ta t σ H Q := h
def Cat (x y : V) (H1 : Hp) (Q : VK) : Prop := rCat x y H1 Q
theorem catL {S : List Addr} {p q : Addr} {xs zs : List V} (st : Stt H0 S l H) (m1 : (p, Is (.lst xs)) ∈ l) (m2 : (q, Is (.lst zs)) ∈ l) (hz : xs.length + zs.length ≤ 100000) (k : ∀ r H1, H0 r = none → Stt H0 S ((r, Is (.lst (xs ++ zs))) :: l) H1 → Q (.ref r) H1) : rCat (.ref p) (.ref q) H Q :=
  ⟨p, q, xs, zs, rfl, rfl, st.get m1, st.get m2, Nat.le_trans hz (by decide), fun r hr => k r _ (st.none hr) (st.new hr _)⟩
theorem isB {a b : Bool} (h : Q (.bl (decide (a = b))) H) : rIsB (.bl a) (.bl b) H Q := ⟨a, b, rfl, rfl, h⟩
theorem zL {a b : Addr} {xs ys : List V} {R : It → Hp → Prop} (h1 : SqL K H a xs) (h2 : SqL K H b ys) (h : R (Itz K a b) H) : WZ K [.ref a, .ref b] H R := ⟨a, b, xs, ys, rfl, .inl ⟨h1, h2, h⟩⟩
theorem zT {a b : Addr} {xs ys : List V} {R : It → Hp → Prop} (h1 : SqT K H a xs) (h2 : SqT K H b ys) (h : R (RZ.ItzT K a b) H) : WZ K [.ref a, .ref b] H R := ⟨a, b, xs, ys, rfl, .inr ⟨h1, h2, h⟩⟩
theorem lenBL {S : List Addr} {p : Addr} {xs : List V} (st : Stt H0 S l H) (s : SqL K H0 p xs) (n : p ∉ S) (h : Q (.int (xs.length : Int)) H) : rLenQ K [.ref p] H Q := ⟨p, xs, rfl, .inl (st.upL s n), h⟩
theorem lenBT {S : List Addr} {p : Addr} {xs : List V} (st : Stt H0 S l H) (s : SqT K H0 p xs) (n : p ∉ S) (h : Q (.int (xs.length : Int)) H) : rLenQ K [.ref p] H Q := ⟨p, xs, rfl, .inr (st.upT s n), h⟩
theorem ixBL {S : List Addr} {p : Addr} {xs : List V} {z : Int} {v : V} (st : Stt H0 S l H) (s : SqL K H0 p xs) (n : p ∉ S) (e : atI xs z = some v) (h : Q v H) : rIxL K (.ref p) (.int z) H Q := ⟨p, xs, z, v, rfl, rfl, st.upL s n, e, h⟩
theorem ixBT {S : List Addr} {p : Addr} {xs : List V} {z : Int} {v : V} (st : Stt H0 S l H) (s : SqT K H0 p xs) (n : p ∉ S) (e : atI xs z = some v) (h : Q v H) : rIxT K (.ref p) (.int z) H Q := ⟨p, xs, z, v, rfl, rfl, st.upT s n, e, h⟩
end Rd
section
variable {X : Cx} {CX : CXT} {k : Nat} {f C : Addr} {fd : FuncData} {ps ks : List Str} {sp : Sp} {E : XK} {x : Str} {p pos : Pos} {kws : List Keyword} {tk : TA} {gV : List V → List V → List V}
theorem pe_makeK0X (M : Mk X.K C f) (F : FnOk X.prog X.w X.K X.mg X.base CX k f fd ps sp) (hr : Room (k + 1) X.A) (hg : Gl X x) (hm : X.mg x = some (.ref C)) (hb : ∃ g, KBn X.K fd ps 1 ks g gV) (hx : Passes CX X E)
    (hkw : PK X kws tk) (hall : (backToKw pos (keywordEach kws X.env)).all (·.1.isSome) = true := by rfl) (hks : (backToKw pos (keywordEach kws X.env)).filterMap (·.1) = ks := by rfl)
    (hdb : (x == ("__debug__" : Str)) = false := by decide) (hpl : ((backTo pos (starEach [] X.env)).any (·.1) || (backToKw pos (keywordEach kws X.env)).any (·.1.isNone)) = false := by rfl) :
    PE X (.Call (.Name x p) [] kws pos) (tMakeK C 0 ks.length sp gV E tNil tk) := by
  obtain ⟨g, hb⟩ := hb
  exact pe_makeK0 M F hr hg hm hb hx hkw hall hks hdb hpl
end
end Lt

set_option Elab.async false
set_option linter.all false
set_option maxRecDepth 100000
set_option maxHeartbeats 2000000
namespace Lt
open PySem PySem.Spec PyProof.Rows L2
/-! ### static methods -/
/-- where the function of a static method stands -/
def sAd (K : PySem.W.Frag) (p : Str × Option Str) : Addr := match PySem.W.recIn K (He.fAd K p) "staticmethod" with
  | some (.ref f :: _) => f
  | _ => 0
def sW (K : PySem.W.Frag) (p : Str × Option Str) : He.FnW := match K.lookup (sAd K p) with
  | some ⟨_, _, .func fd, _⟩ => some (fd.name, fd.qualname, fd.params, fd.body, fd.scope, fd.globals, fd.closure, fd.builtins)
  | _ => none
def sOk (K : PySem.W.Frag) (d : He.DefD) : Bool := PySem.W.keepIn K (.ref (sAd K d.at_)) && (match K.lookup (sAd K d.at_) with
  | some ⟨_, _, .func fd, _⟩ => PySem.W.codeIn K fd.code d.qual && (He.dflB K fd.defaults (d.dvs K) && He.kwdB K fd.kwdefaults (d.kws K))
  | _ => false)
theorem sFunD {K : PySem.W.Frag} {d : He.DefD} (e : sW K d.at_ = d.val) (c : sOk K d = true) : ∃ fd, FunD K d.name d.qual d.params d.body d.scope (d.dvs K) (d.kws K) (sAd K d.at_) fd := by
  obtain ⟨kp, c2⟩ := He.ba c
  unfold sW at e
  cases q : K.lookup (sAd K d.at_) with
  | none =>
    rw [q] at c2
    cases c2
  | some o =>
    obtain ⟨oc, od, dt, osl⟩ := o
    rw [q] at c2 e
    cases dt with
    | func fd =>
      obtain ⟨n1, n2, n3, n4, n5, n6, n7, n8, n9, n10, n11, n12, n13, n14, n15⟩ := fd
      have e2 : (some (n1, n2, n3, n4, n5, n6, n7, n15) : He.FnW) = some (d.name, d.qual, d.params, .stmts d.body, d.scope, mainGlobals, [], builtinsNs) := e
      simp only [Option.some.injEq, Prod.mk.injEq] at e2
      obtain ⟨h1, h2, h3, h4, h5, h6, h7, h8⟩ := e2
      subst h1 h2 h3 h4 h5 h6 h7 h8
      have c3 : (PySem.W.codeIn K n13 d.qual && (He.dflB K n8 (d.dvs K) && He.kwdB K n9 (d.kws K))) = true := c2
      obtain ⟨k1, k2⟩ := He.ba c3
      obtain ⟨k3, k4⟩ := He.ba k2
      exact ⟨_, ⟨oc, od, n8, n9, n10, n11, n12, n13, n14, osl, rfl, q, k1, He.dflB_ok k3, He.kwdB_ok k4⟩, kp⟩
    | _ => cases c2
/-- C.m is a static method, its function at g -/
structure SMet (K : PySem.W.Frag) (C g : Addr) (m : Str) : Prop where
  rd : PySem.W.readsIn K C (.type "type") = true
  ga : PySem.W.specialIn K (.ref C) "__getattribute__" = some (some (.builtin "type.__getattribute__"))
  at_ : ∃ p rest, PySem.W.findCls K (.ref C) (.type "type") m = some (.get (.builtin "staticmethod.__get__") (.ref p) .none (.ref C)) ∧ PySem.W.recIn K p "staticmethod" = some (.ref g :: rest)
def sMetB (K : PySem.W.Frag) (x m : Str) : Bool := PySem.W.readsIn K (He.ga K x) (.type "type") && (decide (PySem.W.specialIn K (.ref (He.ga K x)) "__getattribute__" = some (some (.builtin "type.__getattribute__"))) &&
  ((match PySem.W.findCls K (.ref (He.ga K x)) (.type "type") m with
      | some (.get g a o t) => decide (g = .builtin "staticmethod.__get__") && (decide (a = .ref (He.fAd K (x, some m))) && (decide (o = .none) && decide (t = .ref (He.ga K x))))
      | _ => false) &&
    (match PySem.W.recIn K (He.fAd K (x, some m)) "staticmethod" with
      | some (.ref _ :: _) => true
      | _ => false)))
theorem sMet_of {K : PySem.W.Frag} {x m : Str} (h : sMetB K x m = true) : SMet K (He.ga K x) (sAd K (x, some m)) m := by
  obtain ⟨h1, h⟩ := He.ba h
  obtain ⟨h2, h⟩ := He.ba h
  obtain ⟨h3, h4⟩ := He.ba h
  have h3' : PySem.W.findCls K (.ref (He.ga K x)) (.type "type") m = some (.get (.builtin "staticmethod.__get__") (.ref (He.fAd K (x, some m))) .none (.ref (He.ga K x))) := by
    cases q : PySem.W.findCls K (.ref (He.ga K x)) (.type "type") m with
    | none => rw [q] at h3; cases h3
    | some z =>
      rw [q] at h3
      cases z with
      | val v => cases h3
      | get g a o t =>
        obtain ⟨e1, h3⟩ := He.ba h3
        obtain ⟨e2, h3⟩ := He.ba h3
        obtain ⟨e3, e4⟩ := He.ba h3
        rw [of_decide_eq_true e1, of_decide_eq_true e2, of_decide_eq_true e3, of_decide_eq_true e4]
  refine ⟨h1, of_decide_eq_true h2, He.fAd K (x, some m), ?_⟩
  unfold sAd
  cases q : PySem.W.recIn K (He.fAd K (x, some m)) "staticmethod" with
  | none => rw [q] at h4; cases h4
  | some l =>
    rw [q] at h4
    cases l with
    | nil => cases h4
    | cons v r =>
      cases v with
      | ref f => exact ⟨r, h3', rfl⟩
      | _ => cases h4
section
variable {X : Cx} {CX : CXT} {k : Nat} {C g : Addr} {fd : FuncData} {ps : List Str} {sp : Sp} {E : L2.St → XK} {o e : Expr} {es : List Expr} {m : Str} {pos apos : Pos} {ta : TE} {t : TA} {pl : Sem Bool}
/-- C.m(e, ..), m a static method of the class at C -/
def tSMeth (C : Addr) (sp : Sp) (E : L2.St → XK) (ta : TE) (t : TA) : TE := fun σ H Q => ta σ H fun x H1 => x = .ref C ∧ t σ H1 fun vs H2 => sp vs H2 Q (E σ)
theorem pe_smeth (he : PE X o ta) (r : SMet X.K C g m) (F : FnOk X.prog X.w X.K X.mg X.base CX k g fd ps sp) (hk : PySem.W.keepIn X.K (.ref g) = true) (hr : Room k X.A) (hb : Binds X.K fd ps []) (hx : ∀ σ, PassesAt CX X σ (E σ)) (ha : PA X (e :: es) t)
    (hst : starEach (e :: es) X.env = (false, eval e X.env) :: starEach es X.env := by rfl) (hpl : (backTo pos (starEach es X.env)).any (·.1) = false := by rfl)
    (ht : eval (.Call (.Attribute o m apos) (e :: es) [] pos) X.env = (do
      let ov ← eval o X.env
      standAt apos.atName
      let (f, first) ← holding [ov] (getMethod ov m pl)
      callWith pos f first (backTo pos (starEach (e :: es) X.env)) (backToKw pos (keywordEach [] X.env))) := by rfl) :
    PE X (.Call (.Attribute o m apos) (e :: es) [] pos) (tSMeth C sp E ta t) := by
  refine ⟨fun pins s σ H Q I h => ?_⟩
  refine PySem.W.methodCall_KW (pl := pl) (thn (he.run pins s σ H _ I h) fun u s1 ⟨x, H1, I1, rx, ex, q⟩ => ?_) ht
  subst ex
  obtain rfl : u = Value.ref C := rx
  obtain ⟨p, rest, e1, e2⟩ := r.at_
  refine PySem.W.method_cls I1.kIn r.ga (PySem.W.cls_bind I1.kIn r.rd e1 ?_)
  refine wpAny_call (PySem.W.sm_get (s := { s1 with toks := s1.toks + 1 }) I1.kIn e2 (PySem.W.handed_on rfl ?_))
  have I2 := I1.tok (s1.toks + 1)
  refine PySem.W.callWith_K (h₀ := X.base) I1.ok.mod.kin hk (thn (ha.run pos _ _ σ H1 _ I2 q) fun us s3 ⟨vs, H2, I3, rv, q2⟩ => ⟨I3.kIn, ?_⟩) hst hpl
  exact run_fnS F hr hb (hx σ) I3 rv q2
end
theorem Rd.smeth {C : Addr} {sp : Sp} {E : L2.St → XK} {ta : TE} {t : TA} {σ : L2.St} {H : Hp} {Q : VK} (h : ta σ H fun x H1 => x = .ref C ∧ t σ H1 fun vs H2 => sp vs H2 Q (E σ)) : tSMeth C sp E ta t σ H Q := h
/-- a written text by its signs; a text of the module -/
theorem pe_strL {X : Cx} {z : Str} {l : List Nat} {k : Nat} {p : Pos} (h : z = SX.S l) : PE X (.Constant (.str z) k p) (tC (.str (SX.S l))) := by
  rw [← h]
  exact pe_str
theorem pe_globS {X : Cx} {x z : Str} {p : Pos} (hg : Gl X x) (hm : ∃ t, X.mg x = some (.str z t)) (hdb : (x == ("__debug__" : Str)) = false := by decide) : PE X (.Name x p) (tC (.str z)) := by
  obtain ⟨t, hm⟩ := hm
  exact pe_glob hg hm ⟨_, rfl⟩ hdb
/-! ### a Hook with static methods -/
def obsS (fa : List He.Fa) (fs : List (PySem.W.Frag → Bool)) (fn sn : List He.DefD) (K : PySem.W.Frag) : He.AlD :=
  ((fa.all fun f => f.ok K) && ((fs.all fun f => f K) && ((fn.all fun d => d.ok K) && sn.all fun d => sOk K d)), (fn.map fun d => He.fnW K d.at_) ++ sn.map fun d => sW K d.at_)
def SaysS (fa : List He.Fa) (fs : List (PySem.W.Frag → Bool)) (fn sn : List He.DefD) (K : PySem.W.Frag) : Prop := obsS fa fs fn sn K = He.valD (fn ++ sn)
def obsSG (n : Nat) (fa : List He.Fa) (fs : List (PySem.W.Frag → Bool)) (fn sn : List He.DefD) (g : Addr → Option Obj) : He.AlD := obsS fa fs fn sn (He.frG g (cStatics :: He.asD g n))
def hookS (n : Nat) (fa : List He.Fa) (fs : List (PySem.W.Frag → Bool)) (fn sn : List He.DefD) : PySem.W.Hook where
  α := He.AlD
  obs := fun s => obsSG n fa fs fn sn s.heap.get?
  val := fun _ => He.valD (fn ++ sn)
  says := fun _ h => ∃ K : PySem.W.Frag, K.In h ∧ SaysS fa fs fn sn K
  of := fun _ _ e => ⟨_, He.frG_in, e⟩
  keeps := fun _ _ _ ⟨K, hK, c⟩ k => ⟨K, PySem.W.Frag.In.keeps hK k, c⟩
theorem obsSG_eq {n : Nat} {fa : List He.Fa} {fs : List (PySem.W.Frag → Bool)} {fn sn : List He.DefD} {g : Addr → Option Obj} {s : Shared} (h : ∀ a, g a = s.heap.get? a) : obsSG n fa fs fn sn g = (hookS n fa fs fn sn).obs s := by
  have e : g = s.heap.get? := funext h
  rw [e] <;> rfl
section
variable {fa : List He.Fa} {fs : List (PySem.W.Frag → Bool)} {fn sn : List He.DefD} {K : PySem.W.Frag}
theorem SaysS.fst (c : SaysS fa fs fn sn K) : ((fa.all fun f => f.ok K) && ((fs.all fun f => f K) && ((fn.all fun d => d.ok K) && sn.all fun d => sOk K d))) = true := congrArg (fun z : He.AlD => z.1) c
theorem SaysS.snd (c : SaysS fa fs fn sn K) : (fn.map fun d => He.fnW K d.at_) ++ (sn.map fun d => sW K d.at_) = (fn ++ sn).map He.DefD.val := congrArg (fun z : He.AlD => z.2) c
theorem SaysS.fact (c : SaysS fa fs fn sn K) (i : Nat) {f : He.Fa} (h : fa[i]? = some f) : f.ok K = true :=
  List.all_eq_true.mp (He.ba c.fst).1 f (List.mem_of_getElem? h)
theorem SaysS.chk (c : SaysS fa fs fn sn K) (i : Nat) {f : PySem.W.Frag → Bool} (h : fs[i]? = some f) : f K = true :=
  List.all_eq_true.mp (He.ba (He.ba c.fst).2).1 f (List.mem_of_getElem? h)
theorem SaysS.def_ (c : SaysS fa fs fn sn K) (i : Nat) {d : He.DefD} (h : fn[i]? = some d) : ∃ fd, FunD K d.name d.qual d.params d.body d.scope (d.dvs K) (d.kws K) (He.fAd K d.at_) fd := by
  have c2 := (He.ba (He.ba (He.ba c.fst).2).2).1
  have e := c.snd
  rw [List.map_append] at e
  have e1 : fn.map (fun d => He.fnW K d.at_) = fn.map He.DefD.val := (List.append_inj e (by simp)).1
  have e2 : (fn.map fun d => He.fnW K d.at_)[i]? = (fn.map He.DefD.val)[i]? := by rw [e1]
  rw [List.getElem?_map, List.getElem?_map, h] at e2
  exact He.DefD.funD (Option.some.inj e2) (List.all_eq_true.mp c2 d (List.mem_of_getElem? h))
theorem SaysS.stat (c : SaysS fa fs fn sn K) (i : Nat) {d : He.DefD} (h : sn[i]? = some d) : ∃ fd, FunD K d.name d.qual d.params d.body d.scope (d.dvs K) (d.kws K) (sAd K d.at_) fd := by
  have c2 := (He.ba (He.ba (He.ba c.fst).2).2).2
  have e := c.snd
  rw [List.map_append] at e
  have e1 : sn.map (fun d => sW K d.at_) = sn.map He.DefD.val := (List.append_inj e (by simp)).2
  have e2 : (sn.map fun d => sW K d.at_)[i]? = (sn.map He.DefD.val)[i]? := by rw [e1]
  rw [List.getElem?_map, List.getElem?_map, h] at e2
  exact sFunD (Option.some.inj e2) (List.all_eq_true.mp c2 d (List.mem_of_getElem? h))
end
/-! ### own exception classes with an own __init__ -/
/-- what a class must have: made, its field read -/
structure ExK (K : PySem.W.Frag) (C fI : Addr) : Prop where
  oex : OexC K C
  xf : XfC K C
  iC : PySem.W.findIn K (.ref C) "__init__" = some (some (.ref fI))
  tI : PySem.W.typeIn K (.ref fI) = some (.type "function")
  te : PySem.W.exmOne K (.ref C) (.ref C) = some true
def exClsB (K : PySem.W.Frag) (C : Addr) : Bool := match K.lookup C with
  | some ⟨.type "type", _, .cls cd, sl⟩ => (match cd.mro, sl.toList with
    | .ref C' :: bm, [_, _, _, _, some (.builtin n), _] => C' == C && (n == "ValueError.__new__" && (!cd.hasDel && (cd.hasDict && PySem.HandSPX.refsVE bm)))
    | _, _ => false)
  | _ => false
theorem exCls_of {K : PySem.W.Frag} {C : Addr} (q : exClsB K C = true) : ∃ nm q N bs bm sn sub ab col dd k0 k1 k2 k3 k5, K.lookup C = some (excClassObj nm q C N bs bm true sn sub ab col dd k0 k1 k2 k3 k5 "ValueError.__new__") ∧ PySem.HandSPX.refsVE bm = true := by
  unfold exClsB at q
  split at q
  · rename_i dd cd sl ho
    split at q
    · rename_i C' bm k0 k1 k2 k3 n k5 hm hs
      simp only [Bool.and_eq_true, beq_iff_eq, Bool.not_eq_true'] at q
      obtain ⟨rfl, rfl, hdel, hdi, ht⟩ := q
      obtain ⟨nm, bs, mro, ns, qn, hd, sn, sub, ab, col, del⟩ := cd
      dsimp only at hm hdel hdi
      subst hm hdel hdi
      have hsl : sl = #[k0, k1, k2, k3, some (.builtin "ValueError.__new__"), k5] := by
        obtain ⟨l⟩ := sl
        simp only at hs
        rw [hs]
      subst hsl
      exact ⟨nm, qn, ns, bs, bm, sn, sub, ab, col, dd, k0, k1, k2, k3, k5, ho, ht⟩
    · cases q
  · cases q
/-- decided of the name x of the module -/
def exKB (K : PySem.W.Frag) (x : Str) : Bool := exClsB K (He.ga K x) && (decide (PySem.W.findIn K (.ref (He.ga K x)) "__setattr__" = some (some (.builtin "object.__setattr__"))) && (decide (PySem.W.subIn K (.ref (He.ga K x)) (.type "BaseException") = some true) &&
  (decide (PySem.W.typeIn K (.ref (He.ga K x)) = some (.type "type")) && (PySem.W.keepIn K (.ref (He.ga K x)) && (xfB K (He.ga K x) && (decide (PySem.W.findIn K (.ref (He.ga K x)) "__init__" = some (some (.ref (He.ma K (He.ga K x) "__init__")))) &&
    (decide (PySem.W.typeIn K (.ref (He.ma K (He.ga K x) "__init__")) = some (.type "function")) && decide (PySem.W.exmOne K (.ref (He.ga K x)) (.ref (He.ga K x)) = some true))))))))
theorem exK_of {K : PySem.W.Frag} {x : Str} (h : exKB K x = true) : ExK K (He.ga K x) (He.ma K (He.ga K x) "__init__") := by
  obtain ⟨h1, h⟩ := He.ba h
  obtain ⟨h2, h⟩ := He.ba h
  obtain ⟨h3, h⟩ := He.ba h
  obtain ⟨h4, h⟩ := He.ba h
  obtain ⟨h5, h⟩ := He.ba h
  obtain ⟨h6, h⟩ := He.ba h
  obtain ⟨h7, h⟩ := He.ba h
  obtain ⟨h8, h9⟩ := He.ba h
  exact ⟨⟨exCls_of h1, of_decide_eq_true h2, of_decide_eq_true h3, of_decide_eq_true h4, h5⟩, xfB_ok h6, of_decide_eq_true h7, of_decide_eq_true h8, of_decide_eq_true h9⟩
/-- the promise of an __init__ that says self.f = x, no more -/
def spExI (C : Addr) (f : Str) : Sp := fun vs H Q _ => ∃ (a : Addr) (v : V), vs = [.ref a, v] ∧ H a = some (exo a C none) ∧ ∀ d, H d = none → d ≠ a → Q .non (upd (upd H d (exd d [(f, v)])) a (exo a C (some d)))
/-- C(v), raised: what is left of it is its dict -/
theorem mkO_ask {C : Addr} {f : Str} {σ : L2.St} {H : Hp} {Q : XK} {ta : TA} (h : ta σ H fun vs H1 => ∃ v, vs = [v] ∧ ∀ d, H1 d = none → Q (.ref C) (some d) (upd H1 d (.xd [(f, v)]))) (mono : ∀ {K1 K2 : List V → Hp → Prop}, (∀ vs H', K1 vs H' → K2 vs H') → ta σ H K1 → ta σ H K2) :
    tMkO C (spExI C f) [] ta σ H Q := by
  refine mono (fun vs H1 hh => ?_) h
  obtain ⟨v, rfl, k⟩ := hh
  refine ⟨by simp, fun a ha => ⟨a, v, rfl, upd_same, fun d hd hda => ⟨rfl, d, [(f, v)], upd_same, ?_, ?_, ?_⟩⟩⟩
  · rw [upd_ne hda, upd_same]
  · rw [upd_ne hda] at hd
    exact hd
  · rw [upd_ne hda] at hd
    have e : upd (del (upd (upd (upd H1 a (exo a C none)) d (exd d [(f, v)])) a (exo a C (some d))) a) d (.xd [(f, v)]) = upd H1 d (.xd [(f, v)]) := by
      funext b
      by_cases h1 : b = d
      · subst h1
        rw [upd_same, upd_same]
      · rw [upd_ne h1, upd_ne h1]
        by_cases h2 : b = a
        · subst h2
          rw [del_same, ha]
        · rw [del_ne h2, upd_ne h2, upd_ne h1, upd_ne h2]
    rw [e]
    exact k d hd
end Lt

set_option Elab.async false
set_option linter.all false
set_option maxRecDepth 100000
set_option maxHeartbeats 2000000
namespace Lt
open PySem PySem.Spec PyProof.Rows L2
/-! ### a class over ValueError called with keywords -/
section
open PySem.HandSPX
variable {M : Model} {prog : Program} {w : World} {A : Around} {E : Value → Shared → Prop} {R : Result → Shared → Prop} {h : Heap} {g : Array GenState} {d : Drawn} {t : Nat} {os : OsState}
variable {nm q : Str} {C N : Addr} {bs bm bmB : List Value} {hdct : Bool} {sn : List Str} {sub : List Value} {ab : Bool} {col : Option Bool} {dd : Option Addr} {k0 k1 k2 k3 k5 : Option Value} {B newId initId : String} {kw : List (Str × Value)}
local macro_rules | `(tactic| walk_at "kw1") => `(tactic| first
  | with_reducible refine wpAny_loadPart_at (by assumption) ?_
  | (with_reducible refine wpAny_isSubtype_exc (by assumption) ?_; first | rw [‹(Value.ref C :: bm).contains (.type B) = true›] | rw [‹(Value.ref C :: bm).contains (.type "AttributeError") = false›] | rw [‹(Value.ref C :: bm).contains (.type "NameError") = false›])
  | with_reducible refine wpAny_staticBase_exc (by assumption) ?_
  | with_reducible refine wpAny_madeBy_exc (by assumption) ?_
  | simp only [bne_self_eq_false, Bool.false_eq_true, if_false]
  | wp_step)
local macro_rules | `(tactic| walk_at "kwn") => `(tactic| repeat (walk_at "kw1"))
theorem check_new_kw (F : ExcBaseFacts B newId initId bmB) (hT : ∀ X : String, bm.contains (.type X) = bmB.contains (.type X)) {Q : Unit → Shared → Prop}
    (hC : h.get? C = some (excClassObj nm q C N bs bm hdct sn sub ab col dd k0 k1 k2 k3 k5 newId)) (hq : Q () ⟨h, g, d, t, os⟩) : wpAny M A (checkBuiltinCall newId ⟨[.ref C], kw⟩) Q E ⟨h, g, d, t, os⟩ := by
  have e1 : (Value.ref C :: bm).contains (.type B) = true := by rw [List.contains_cons, hT, F.hasB, Bool.or_true]
  have e2 := F.noStar
  simp only [checkBuiltinCall, F.newKind, F.newSplit, F.newRow]
  walk_at "kwn"
  exact hq
theorem new_kw (F : ExcBaseFacts B newId initId bmB) (hT : ∀ X : String, bm.contains (.type X) = bmB.contains (.type X))
    (hC : h.get? C = some (excClassObj nm q C N bs bm hdct sn sub ab col dd k0 k1 k2 k3 k5 newId))
    (hq : R (.ok (.ret (.ref (h.objs.size + 1)))) ⟨(h.push (PySem.W.kdv_tup [])).push (excO C h.objs.size), g, d, t, os⟩) :
    codeAny (model prog w) A (.builtin newId ⟨[.ref C], kw⟩) R ⟨h, g, d, t, os⟩ := by
  have e0 := F.ends
  have e1 : (Value.ref C :: bm).contains (.type B) = true := by rw [List.contains_cons, hT, F.hasB, Bool.or_true]
  have e2 : (Value.ref C :: bm).contains (.type "AttributeError") = false := by rw [List.contains_cons, hT, F.noAttr]; rfl
  have e3 : (Value.ref C :: bm).contains (.type "NameError") = false := by rw [List.contains_cons, hT, F.noName]; rfl
  refine codeAny_builtinAt F.entry ?_
  unfold Builtin.«BaseException.__new__»
  refine PySem.wpAt_bind ?_
  show PySem.wpAt _ _ _ (stack >>= _) _ _ _
  refine PySem.wpAt_bind (PySem.wpAt_stack fun p below => PySem.wpAt_of_wpAny ?_)
  wp_walk
  refine PySem.wpAt_of_wpAny ?_
  rw [F.owner]
  repeat (first | with_reducible refine wpAny_madeHere_exc F.canon hC ?_ | walk_at "kw1")
  show R _ _
  rw [Heap.size_push]
  exact hq
theorem type_call_kw (F : ExcBaseFacts B newId initId bmB) (hT : ∀ X : String, bm.contains (.type X) = bmB.contains (.type X)) {fI : Addr} {Q : Fin → Shared → Prop}
    (hC : h.get? C = some (excClassObj nm q C N bs bm hdct sn sub ab col dd k0 k1 k2 k3 k5 newId))
    (hi : PySem.W.Looks (model prog w) h (typeLookup (.ref C) "__init__") (some (.ref fI))) (hb : ∀ self, PySem.W.Looks (model prog w) h (bindSpecial (.ref fI) self) (.ref fI, [self]))
    (hq : codeAny (model prog w) A (.call (.ref fI) ⟨[.ref (h.objs.size + 1)], kw⟩) (fun r s' => match r with | .ok (.ret v) => v = .none ∧ Q (.done (.ret (.ref (h.objs.size + 1)))) s' | .ok _ => False | .error e => E e s')
      ⟨(h.push (PySem.W.kdv_tup [])).push (excO C h.objs.size), g, d, t, os⟩) :
    wpAny (model prog w) A (Builtin.«type.__call__» ⟨[.ref C], kw⟩) Q E ⟨h, g, d, t, os⟩ := by
  walk_at "kwn"
  refine codeAny_call_builtin_code (Code.quiet_builtin _ F.quiet) (check_new_kw F hT hC (new_kw F hT hC ?_))
  show wpAny _ _ _ _ _ _
  have kk : ∀ b o, h.get? b = some o → ((h.push (PySem.W.kdv_tup [])).push (excO C h.objs.size)).get? b = some o := fun b o e => Heap.get?_push_of_some _ (Heap.get?_push_of_some _ e)
  have hC2 := kk _ _ hC
  have hx : ((h.push (PySem.W.kdv_tup [])).push (excO C h.objs.size)).get? (h.objs.size + 1) = some (excO C h.objs.size) := by heap_get
  have hcc : (Value.ref C :: bm).contains (.ref C) = true := by simp
  have i2 := hi.keeps kk
  have b2 := (hb (.ref (h.objs.size + 1))).keeps kk
  unfold isInstance
  repeat (first | with_reducible refine wpAny_loadPart_at hx ?_ | (with_reducible refine wpAny_isSubtype_exc hC2 ?_; rw [hcc]) | wp_step)
  show wpAny _ _ (typeLookup (.ref C) _) _ _ _
  refine i2.at (wpAny_holding (wpAny_bind (b2.at (wpAny_bind (wpAny_call (codeAny_mono hq fun r s' z => ?_))))))
  cases r with
  | error e => exact z
  | ok fl =>
    cases fl with
    | ret v =>
      obtain ⟨rfl, z⟩ := z
      exact wpAny_pure (wpAny_pure z)
    | next => exact False.elim z
    | brk => exact False.elim z
    | cont => exact False.elim z
theorem call_kw (F : ExcBaseFacts B newId initId bmB) (hT : ∀ X : String, bm.contains (.type X) = bmB.contains (.type X)) {fI : Addr}
    (hC : h.get? C = some (excClassObj nm q C N bs bm hdct sn sub ab col dd k0 k1 k2 k3 k5 newId))
    (hi : PySem.W.Looks (model prog w) h (typeLookup (.ref C) "__init__") (some (.ref fI))) (hb : ∀ self, PySem.W.Looks (model prog w) h (bindSpecial (.ref fI) self) (.ref fI, [self]))
    (hq : codeAny (model prog w) (A.under (.builtin "type.__call__" ⟨[.ref C], kw⟩)) (.call (.ref fI) ⟨[.ref (h.objs.size + 1)], kw⟩) (PySem.W.InitBack (h.objs.size + 1) R)
      ⟨(h.push (PySem.W.kdv_tup [])).push (excO C h.objs.size), g, d, t, os⟩) :
    codeAny (model prog w) A (.call (.ref C) ⟨[], kw⟩) R ⟨h, g, d, t, os⟩ := by
  have g1 := tc_lookup
  have g2 := tc_bind (.ref C)
  have hTy : (⟨h, g, d, t, os⟩ : Shared).TypeIs (.ref C) "type" := ⟨_, hC, rfl⟩
  refine codeAny_of_tree ?_
  show wpAny _ _ (callAny (.ref C) _) _ _ _
  repeat (any_goals (first | assumption | with_reducible refine wpAny_loadPart_at hC ?_ | wp_step))
  refine ⟨rfl, codeAny_call_builtin_at (Code.quiet_builtin _ (by decide +kernel)) entry_typeCall (wpAny_check_type_call_sub hC (type_call_kw F hT hC hi hb (codeAny_mono hq fun r s' z => ?_)))⟩
  cases r with
  | error e => exact z
  | ok fl => cases fl <;> exact z
end
/-! ### isinstance of a made exception -/
section
open PySem.W
variable {prog : Program} {w : World} {A : Around} {E : Value → Shared → Prop} {s : Shared} {K : Frag} {x D : Addr} {ox : Obj} {od : Option Obj}
theorem find_data {name : Str} {a g : Value} (hc : (clsIn K D).isSome = true) (ha : findIn K (.ref D) name = some (some a)) (hg : specialIn K a "__get__" = some (some g)) (ht : takesIn K a = some true) : findObj K D od name = some (.bind g a) := by
  obtain ⟨cd, hcd⟩ := Option.isSome_iff_exists.mp hc
  unfold findObj
  rw [hcd, Option.bind_some, ha, Option.bind_some] <;> simp [hg, ht]
theorem class_of_exc (C : ExcC K D) (X : K.In s.heap) (I : InstAt s.heap x ox D od) {Q : Option Value → Shared → Prop} (h : Q (some (.ref D)) { s with toks := s.toks + 1 }) : wpAny (model prog w) A (getAttr? (.ref x) "__class__") Q E s := by
  have f : findObj K D od "__class__" = some (.bind (.builtin "getset_descriptor.__get__") (.builtin "object.__class__")) := find_data (by obtain ⟨cd, hc, _⟩ := any_some C.hd; rw [hc]; rfl) C.ha C.hn C.ht
  obtain ⟨hp, g, d, t, os⟩ := s
  have K0 := I.type (M := model prog w)
  have K1 := looks_findIn (M := model prog w) X C.hg
  have K2 := looks_findIn (M := model prog w) X C.hk
  have K3 := looks_find (M := model prog w) X I f
  have K4 : Looks (model prog w) hp (isInstance (.ref x) (.type "BaseException")) true := K0.andThen (looks_subIn X C.hs)
  have n0 : (false && onTheHeap (Value.builtin "BaseException.__getattribute__")) = false := rfl
  have n1 : (onTheHeap (Value.ref D) && Value.builtin "BaseException.__getattribute__" == Value.builtin "object.__getattribute__") = false := by
    rw [show (Value.builtin "BaseException.__getattribute__" == Value.builtin "object.__getattribute__") = false by decide +kernel]
    rfl
  unfold getAttr? getAttrBy? getAttrBy
  refine wpAny_bind (wpAny_mkText (wpAny_bind (wpAny_attempt (wpAny_holding (wpAny_bind (K0.at (wpAny_bind (K1.at ?_))))))))
  show wpAny _ _ (if (onTheHeap (Value.ref D) && Value.builtin "BaseException.__getattribute__" == Value.builtin "object.__getattribute__") = true then _ else _) _ _ _
  rw [if_neg (by rw [n1]; exact Bool.false_ne_true)]
  unfold getAttrByItsOwn hookBefore
  refine wpAny_bind ?_
  rw [if_pos (show onTheHeap (Value.ref D) = true from rfl)]
  refine K2.at (wpAny_bind (wpAny_attempt (wpAny_holding ?_)))
  unfold callGetattribute
  rw [if_neg (by rw [n0]; exact Bool.false_ne_true)]
  unfold boundAndCalled
  rw [PySem.F.excAttr_ValueError.ga.bind (.ref x)]
  refine wpAny_bind (wpAny_pure ?_)
  show wpAny _ _ (call (.builtin "BaseException.__getattribute__") [.ref x, .str "__class__" t]) _ _ _
  refine wpAny_call (codeAny_call_builtin PySem.F.excAttr_ValueError.ga.plain PySem.F.entry_bexc_ga (@check_slot (model prog w) _ _ ⟨hp, g, d, t + 1, os⟩ "BaseException.__getattribute__" "BaseException" "__getattribute__" (.ref x) [.str "__class__" t] [] _ (by decide +kernel) (by decide +kernel) K4 (PySem.F.args_bexc_ga (.ref x) (.str "__class__" t)) ?_))
  unfold Builtin.«object.__getattribute__»
  refine wpAny_bind (wpAny_of_eq (a := ((Value.ref x : Value), [Value.str "__class__" t])) (by first | rfl | (simp only [slotArgs]; rfl)) (wpAny_bind (wpAny_pure (wpAny_bind (K0.at (wpAny_bind (K3.at ?_)))))))
  show wpAny _ _ (holding [Value.builtin "object.__class__"] (call (.builtin "getset_descriptor.__get__") [.builtin "object.__class__", .ref x, .ref D]) >>= ret) _ _ _
  refine wpAny_bind (wpAny_holding (wpAny_call (class_get (s := ⟨hp, g, d, t + 1, os⟩) (ox := ox) (od := od) X I C.hm (wpAny_pure ?_))))
  show wpAny _ _ (handedOut (.ref D)) _ _ _
  rw [handedOut_of (v := .ref D) rfl]
  first
    | exact wpAny_pure (wpAny_pure h)
    | exact wpAny_pure h
    | exact wpAny_pure (wpAny_bind (wpAny_pure (wpAny_pure h)))
theorem kit_exc (C : ExcC K D) : KitX K (.ref x) (.ref D) (fun h => InstAt h x ox D od) := by
  obtain ⟨cdD, hcD, _⟩ := any_some C.hd
  unfold clsIn at hcD
  split at hcD
  · rename_i c' d' cd' sl' ho
    refine ⟨fun _ _ _ I => I.type, fun _ _ X _ => ?_, fun h tp dd its n sl X htp => ?_, fun X I k => class_of_exc C X I k⟩
    · intro A' Q' E' s' k q
      unfold isType loadHead
      exact wpAny_bind (wpAny_loadPart (k _ _ (X _ _ ho)) (wpAny_pure q))
    · refine Bool.eq_false_iff.mpr fun q => ?_
      have e : D = tp := Value.ref.inj (beq_iff_eq.mp q)
      subst e
      cases (X _ _ ho).symm.trans htp
  · cases hcD
end
/-- e, an exception of the class at D that is held as a value -/
def ExAt (H : Hp) (a D : Addr) : Prop := H a = some (exo a D none) ∨ ∃ d fs, H a = some (exo a D (some d)) ∧ H d = some (exd d fs)
def rIsX (K : PySem.W.Frag) : List V → Hp → VK → Prop := fun xs H Q => ∃ (a D : Addr) (c : V) (cv : Value) (b : Bool), xs = [.ref a, c] ∧ ExcC K D ∧ ExAt H a D ∧ ClsV c cv ∧ PySem.W.kitOne K (.ref D) cv = some b ∧ Q (.bl b) H
theorem exAt_inst {X : Cx} {pins : List (Addr × Obj)} {σ : L2.St} {H : Hp} {s : Shared} {a D : Addr} (I : Inv X pins σ H s) (h : ExAt H a D) : ∃ ox od, PySem.W.InstAt s.heap a ox D od := by
  rcases h with h | ⟨d, fs, h, hd⟩
  · obtain ⟨t1, ho⟩ := exo_at I.hok h
    exact ⟨_, none, ho, rfl, rfl, trivial⟩
  · obtain ⟨t1, ho⟩ := exo_at I.hok h
    obtain ⟨mA, hns, _⟩ := exd_at I.hok hd
    obtain ⟨od, hod, _⟩ := lookIn_ns hns
    exact ⟨_, some od, ho, rfl, rfl, hod⟩
theorem call_isX {X : Cx} : CallR X (.builtin "isinstance") (rIsX X.K) := by
  intro pins s σ H xs us Q I r h
  obtain ⟨a, D, c, cv, b, rfl, hC, hA, k, e, q⟩ := h
  obtain ⟨u1, u2, rfl, r1, r2⟩ := vals2 r
  cases (show u1 = Value.ref a from r1)
  have e2 := k.eq r2
  subst e2
  obtain ⟨ox, od, J⟩ := exAt_inst I hA
  exact PySem.W.kia_one (kit_exc (ox := ox) (od := od) hC) I.kIn J e (fun z => nomatch z) fun tk => ⟨.bl b, H, I.tok tk, rfl, q⟩
/-! ### made, kept as a value -/
section
variable {X : Cx} {CX : CXT} {k : Nat} {C fI : Addr} {fd : FuncData} {ps ks : List Str} {sp : Sp} {x : Str} {p pos : Pos} {e : Expr} {es : List Expr} {kws : List Keyword} {ta tk : TA} {gV : List V → List V → List V}
theorem laid_exc {pins : List (Addr × Obj)} {σ : L2.St} {H : Hp} {hp : Heap} {g : Array GenState} {d : Drawn} {t : Nat} {os : OsState} (I : Inv X pins σ H ⟨hp, g, d, t, os⟩) (us : List Value) :
    Inv X pins σ (upd H (hp.objs.size + 1) (exo (hp.objs.size + 1) C none)) ⟨(hp.push (PySem.W.kdv_tup us)).push (PySem.HandSPX.excO C hp.objs.size), g, d, t, os⟩ :=
  I.laid (t' := t) (a := hp.objs.size + 1) (o := exo (hp.objs.size + 1) C none) (h' := (hp.push (PySem.W.kdv_tup us)).push (PySem.HandSPX.excO C hp.objs.size))
    (fun _ _ q => Heap.get?_push_of_some _ (Heap.get?_push_of_some _ q)) (Nat.le_succ _) (exo_ok (t1 := hp.objs.size) (by heap_get))
abbrev noX : XK := fun _ _ _ => False
/-- C(v, ..) as a value, C's own __init__ keeping sp -/
def tExMk (C : Addr) (sp : Sp) (ta : TA) : TE := fun σ H Q => ta σ H fun vs H1 => vs.length ≤ 1000 ∧ ∀ a, H1 a = none → sp (.ref a :: vs) (upd H1 a (exo a C none)) (fun v H2 => v = .non ∧ Q (.ref a) H2) noX
theorem pe_exMk (T : ExK X.K C fI) (F1 : FnOk X.prog X.w X.K X.mg X.base CX k fI fd ps sp) (hr : Room (k + 1) X.A) (hb : Binds X.K fd ps []) (hx : Passes CX X noX) (hg : Gl X x) (hm : X.mg x = some (.ref C)) (ha : PA X (e :: es) ta)
    (hdb : (x == ("__debug__" : Str)) = false := by decide) (he : starEach (e :: es) X.env = (false, eval e X.env) :: starEach es X.env := by rfl) (hpl : (backTo pos (starEach es X.env)).any (·.1) = false := by rfl) :
    PE X (.Call (.Name x p) (e :: es) [] pos) (tExMk C sp ta) := by
  refine ⟨fun pins s σ H Q I h => ?_⟩
  obtain ⟨nm, q, N, bs, bm, sn, sub, ab, col, dd, k0, k1, k2, k3, k5, hC, hbm⟩ := T.oex.cls
  refine wpAny_Call_Name_kw (ld_glob I hg hm (PySem.W.callWith_K (h₀ := X.base) I.ok.mod.kin T.oex.kC (thn (ha.run pos pins s σ H _ I h) fun us s1 ⟨vs, H1, I1, r1, hz, q1⟩ => ⟨I1.kIn, ?_⟩) he hpl) hdb)
  obtain ⟨hp, g, dr, tk, os⟩ := s1
  have hq := q1 (hp.objs.size + 1) (I1.hok.fresh (Nat.le_succ _))
  have I2 := laid_exc (C := C) I1 us
  have r2 : Vals (V.ref (hp.objs.size + 1) :: vs) (Value.ref (hp.objs.size + 1) :: us) := .cons rfl r1
  have hl : (Value.ref (hp.objs.size + 1) :: us).length = ps.length := r2.length.symm.trans (F1.len _ _ _ _ hq)
  have hus : us.length ≤ sizeLine := by rw [← Paired.length r1, sizeLine_eq]; omega
  show wpAny _ _ (call (.ref C) us) _ _ _
  refine wpAny_call (PySem.HandSPX.call_own F.excBase_ValueError (fun Y => PySem.HandSPX.refsVE_contains Y bm hbm) (I1.kIn _ _ hC) (PySem.W.looks_findIn I1.kIn T.iC) (fun self => PySem.W.bind_fn I1.kIn self T.tI) hus
    (codeAny_mono (F1.run _ X.stack _ _ ⟨Value.ref (hp.objs.size + 1) :: us, []⟩ (Value.ref (hp.objs.size + 1) :: us) _ _ noX (hr.make C us []) (I2.env0.make C us []) (by have z := hb _ (Value.ref (hp.objs.size + 1) :: us) I2.kIn (by simpa using hl); simpa using z) r2 hq) fun r s' hq' => ?_))
  cases r with
  | error er => exact hx pins σ _ _ er s' I2 hq'
  | ok fl =>
    cases fl with
    | ret u =>
      obtain ⟨v, H3, I3, rv, rfl, q2⟩ := I2.after hq'
      exact ⟨rv, .ref (hp.objs.size + 1), H3, I3, rfl, q2⟩
    | next => exact False.elim hq'
    | brk => exact False.elim hq'
    | cont => exact False.elim hq'
/-- C() -/
def tExMk0 (C : Addr) (sp : Sp) : TE := fun _ H Q => ∀ a, H a = none → sp [.ref a] (upd H a (exo a C none)) (fun v H2 => v = .non ∧ Q (.ref a) H2) noX
theorem pe_exMk0 (T : ExK X.K C fI) (F1 : FnOk X.prog X.w X.K X.mg X.base CX k fI fd ps sp) (hr : Room (k + 1) X.A) (hb : Binds X.K fd ps []) (hx : Passes CX X noX) (hg : Gl X x) (hm : X.mg x = some (.ref C))
    (hdb : (x == ("__debug__" : Str)) = false := by decide) : PE X (.Call (.Name x p) [] [] pos) (tExMk0 C sp) := by
  refine ⟨fun pins s σ H Q I h => ?_⟩
  obtain ⟨nm, q, N, bs, bm, sn, sub, ab, col, dd, k0, k1, k2, k3, k5, hC, hbm⟩ := T.oex.cls
  refine wpAny_Call_Name_kw (ld_glob I hg hm (PySem.W.callWith_K0 I.kIn T.oex.kC ?_) hdb)
  obtain ⟨hp, g, dr, tk, os⟩ := s
  have hq := h (hp.objs.size + 1) (I.hok.fresh (Nat.le_succ _))
  have I2 := laid_exc (C := C) I []
  have r2 : Vals [V.ref (hp.objs.size + 1)] [Value.ref (hp.objs.size + 1)] := .cons rfl .nil
  have hl : [Value.ref (hp.objs.size + 1)].length = ps.length := r2.length.symm.trans (F1.len _ _ _ _ hq)
  show wpAny _ _ (call (.ref C) []) _ _ _
  refine wpAny_call (PySem.HandSPX.call_own F.excBase_ValueError (fun Y => PySem.HandSPX.refsVE_contains Y bm hbm) (I.kIn _ _ hC) (PySem.W.looks_findIn I.kIn T.iC) (fun self => PySem.W.bind_fn I.kIn self T.tI) (by decide)
    (codeAny_mono (F1.run _ X.stack _ _ ⟨[Value.ref (hp.objs.size + 1)], []⟩ [Value.ref (hp.objs.size + 1)] _ _ noX (hr.make C [] []) (I2.env0.make C [] []) (by have z := hb _ [Value.ref (hp.objs.size + 1)] I2.kIn (by simpa using hl); simpa using z) r2 hq) fun r s' hq' => ?_))
  cases r with
  | error er => exact hx pins σ _ _ er s' I2 hq'
  | ok fl =>
    cases fl with
    | ret u =>
      obtain ⟨v, H3, I3, rv, rfl, q2⟩ := I2.after hq'
      exact ⟨rv, .ref (hp.objs.size + 1), H3, I3, rfl, q2⟩
    | next => exact False.elim hq'
    | brk => exact False.elim hq'
    | cont => exact False.elim hq'
/-- C(k = v, ..) -/
def tExMkK (n : Nat) (C : Addr) (sp : Sp) (gV : List V → List V → List V) (tk : TA) : TE := fun σ H Q => tk σ H fun zs H1 => zs.length = n ∧ ∀ a, H1 a = none → sp (gV [.ref a] zs) (upd H1 a (exo a C none)) (fun v H2 => v = .non ∧ Q (.ref a) H2) noX
theorem pe_exMkK (T : ExK X.K C fI) (F1 : FnOk X.prog X.w X.K X.mg X.base CX k fI fd ps sp) (hr : Room (k + 1) X.A) (hb : ∃ g, KBn X.K fd ps 1 ks g gV) (hx : Passes CX X noX) (hg : Gl X x) (hm : X.mg x = some (.ref C)) (hkw : PK X kws tk)
    (hall : (backToKw pos (keywordEach kws X.env)).all (·.1.isSome) = true := by rfl) (hks : (backToKw pos (keywordEach kws X.env)).filterMap (·.1) = ks := by rfl)
    (hdb : (x == ("__debug__" : Str)) = false := by decide) (hpl : ((backTo pos (starEach [] X.env)).any (·.1) || (backToKw pos (keywordEach kws X.env)).any (·.1.isNone)) = false := by rfl) :
    PE X (.Call (.Name x p) [] kws pos) (tExMkK ks.length C sp gV tk) := by
  obtain ⟨g', hb⟩ := hb
  refine ⟨fun pins s σ H Q I h => ?_⟩
  obtain ⟨nm, q, N, bs, bm, sn, sub, ab, col, dd, k0, k1, k2, k3, k5, hC, hbm⟩ := T.oex.cls
  refine wpAny_Call_Name_kw (ld_glob I hg hm (PySem.W.callWith_KW0 (h₀ := X.base) I.ok.mod.kin T.oex.kC hall (thn (hkw.run pos pins s σ H _ I h) fun ws s1 ⟨zs, H1, I1, rz, l2, q1⟩ => ⟨I1.kIn, ?_⟩) hpl) hdb)
  rw [hks]
  obtain ⟨hp, g, dr, tk, os⟩ := s1
  have hq := q1 (hp.objs.size + 1) (I1.hok.fresh (Nat.le_succ _))
  have I2 := laid_exc (C := C) I1 []
  have r2 : Vals [V.ref (hp.objs.size + 1)] [Value.ref (hp.objs.size + 1)] := .cons rfl .nil
  show wpAny _ _ (call (.ref C) [] (ks.zip ws)) _ _ _
  refine wpAny_call (call_kw F.excBase_ValueError (fun Y => PySem.HandSPX.refsVE_contains Y bm hbm) (I1.kIn _ _ hC) (PySem.W.looks_findIn I1.kIn T.iC) (fun self => PySem.W.bind_fn I1.kIn self T.tI)
    (codeAny_mono (F1.run _ X.stack _ _ ⟨[Value.ref (hp.objs.size + 1)], ks.zip ws⟩ (g' [Value.ref (hp.objs.size + 1)] ws) _ _ noX (hr.make C [] (ks.zip ws)) (I2.env0.make C [] (ks.zip ws)) (hb.to _ [Value.ref (hp.objs.size + 1)] ws I2.kIn rfl (rz.length.symm.trans l2)) (hb.rel r2 rz) hq) fun r s' hq' => ?_))
  cases r with
  | error er => exact hx pins σ _ _ er s' I2 hq'
  | ok fl =>
    cases fl with
    | ret u =>
      obtain ⟨v, H3, I3, rv, rfl, q2⟩ := I2.after hq'
      exact ⟨rv, .ref (hp.objs.size + 1), H3, I3, rfl, q2⟩
    | next => exact False.elim hq'
    | brk => exact False.elim hq'
    | cont => exact False.elim hq'
/-- .. its keywords, the parameters' order by gV -/
theorem kbE {K : PySem.W.Frag} {x qual : Str} {params : Arguments} {body : List Stmt} {scope : Scope} {kws : List (Str × V)} {f : Addr} {fd : FuncData} (F : FunD K x qual params body scope [] kws f fd) (g : {α : Type} → List α → List α → List α)
    (h : ∀ (kV doc pm : Value) (an : Option Addr) (cdv ct : Value) (us ws : List Value), us.length = 1 → ws.length = ks.length → bindArgs (PySem.W.fnOf x qual params body scope .none kV doc pm an cdv ct) ⟨us, ks.zip ws⟩ = pure (ps.zip (g us ws)))
    (hrel : ∀ {vs : List V} {us : List Value} {zs : List V} {ws : List Value}, Vals vs us → Vals zs ws → Vals (g vs zs) (g us ws)) :
    ∃ g', KBn K fd ps 1 ks g' (fun vs zs => g vs zs) := by
  obtain ⟨oc, od, dV, kV, doc, pm, an, cdv, ct, osl, rfl, lk, hcd, hD, hK⟩ := F.ex
  rcases hD with ⟨_, rfl⟩ | ⟨e, _⟩
  · exact ⟨fun us ws => g us ws, ⟨fun s us ws X l1 l2 => .of_eq (h kV doc pm an cdv ct us ws l1 l2), hrel⟩⟩
  · exact absurd rfl e
/-- e.f, e an exception kept as a value -/
def tExF (K : PySem.W.Frag) (f : Str) (te : TE) : TE := fun σ H Q => te σ H fun x H1 => ∃ (a C d : Addr) (fs : List (Str × V)) (v : V), x = .ref a ∧ XfC K C ∧ PySem.W.findIn K (.ref C) f = some none ∧ H1 a = some (exo a C (some d)) ∧ H1 d = some (exd d fs) ∧ fs.lookup f = some v ∧ Q v H1
theorem pe_exF {o : Expr} {te : TE} {n : Str} (ho : PE X o te) (hb : attributeBase o n X.env (eval o X.env) = eval o X.env := by rfl) : PE X (.Attribute o n pos) (tExF X.K n te) := by
  refine ⟨fun pins s σ H Q I h => attr_of hb (thn (ho.run pins s σ H _ I h) fun u s1 hh => ?_)⟩
  obtain ⟨x, H1, I1, rx, a, C, d, fs, v, ex, T, hno, ha, hd, l, q⟩ := hh
  subst ex
  obtain rfl : u = Value.ref a := rx
  obtain ⟨t1, hoe⟩ := exo_at I1.hok ha
  obtain ⟨mA, hns, rel⟩ := exd_at I1.hok hd
  obtain ⟨od, hod, hl⟩ := lookIn_ns hns
  obtain ⟨u, hu, ru⟩ := RelO.some_of (v := v) (o := mA n) (by rw [← l]; exact rel n)
  have J : PySem.W.InstAt s1.heap a _ C (some od) := ⟨hoe, rfl, rfl, hod⟩
  exact HandSPX.exc_get I1.kIn J T.ga T.gg T.exC (PySem.W.findObj_own T.hdC hno rfl (by rw [hl, hu])) (handed_of ru) ⟨v, H1, I1.tok _, ru, q⟩
end
/-! ### a dict beside itself -/
def flatR (v : V) : Prop := flatB v = true ∨ ∃ a, v = .ref a
theorem eqAt_self {A : Around} {s : Shared} {v : V} {u u' : Value} (r : RelV v u) (r' : RelV v u') (f : flatR v) : SeqAt.EqAt A s u u' true := by
  rcases f with f | ⟨a, rfl⟩
  · exact eqAt_same r r' f
  · cases (show u = Value.ref a from r)
    cases (show u' = Value.ref a from r')
    exact SeqAt.EqAt.same _
theorem hits_self {κ : Type} [DecidableEq κ] {A : Around} {s : Shared} {kvs : List (κ × V)} {vb : List (κ × Value)} (rb : KV kvs vb) {js : List (κ × V)} {va : List (κ × Value)} (ra : KV js va) (hp : ∀ p ∈ js, valV kvs p.1 = some p.2 ∧ flatR p.2) : PySem.W.KeqHits A s vb va true := by
  unfold KV at ra
  induction ra with
  | nil => exact .nil
  | @cons p q ps qs h1 h2 ih =>
    obtain ⟨e, f⟩ := hp p List.mem_cons_self
    obtain ⟨z1, z2⟩ := h1
    obtain ⟨k, v⟩ := q
    obtain ⟨y, hy, ry⟩ := (show RelO (some p.2) (valueAt vb p.1) by rw [← e]; exact rb.val p.1).some_of
    rw [show p.1 = k from z1] at hy
    show PySem.W.KeqHits A s vb ((k, v) :: qs) (true && true)
    exact .hit hy (eqAt_self z2 ry f) (ih fun p' hm => hp p' (List.mem_cons_of_mem _ hm))
def rEqSelf : R2 := fun x y H Q => ∃ (a : Addr) (kvs : List (Key × V)), x = .ref a ∧ y = .ref a ∧ H a = some (.dK kvs) ∧ (kvs.map (·.1)).Nodup ∧ (∀ p ∈ kvs, flatR p.2) ∧ Q (.bl true) H
theorem op_eqSelf {X : Cx} (hu : X.A.units < cLine) : OpR X (compareOp .Eq) rEqSelf := by
  intro pins s σ H x y v u Q I rx ry h
  obtain ⟨a, kvs, rfl, rfl, ea, nd, fl, q⟩ := h
  obtain rfl : v = Value.ref a := rx
  obtain rfl : u = Value.ref a := ry
  obtain ⟨_, ya, va, ra, da⟩ := (show ObjOk X.prog X.w H s.heap a (.dK kvs) from I.hok a _ ea)
  exact PySem.W.keq_eq (knd := mixKind X.prog X.w) (r := true) ya ya da da hu (fun _ => hits_self ra ra fun p hp => ⟨val_nodup nd p hp, fl p hp⟩) (fin_bl I q (by simp))
/-! ### facts of several classes at once -/
def clsValB (K : PySem.W.Frag) (c : Value) (m : Str) (v : Value) : Bool := match PySem.W.findCls K c (.type "type") m with
  | some (.val u) => decide (u = v)
  | _ => false
theorem clsVal_of {K : PySem.W.Frag} {c : Value} {m : Str} {v : Value} (h : clsValB K c m v = true) : PySem.W.findCls K c (.type "type") m = some (.val v) := by
  unfold clsValB at h
  split at h
  · rename_i u e
    rw [e, of_decide_eq_true h]
  · cases h
/-- a class whose __init__ is that of another one -/
def exKB2 (K : PySem.W.Frag) (x y : Str) : Bool := exKB K x && decide (He.ma K (He.ga K x) "__init__" = He.ma K (He.ga K y) "__init__")
theorem exK2_of {K : PySem.W.Frag} {x y : Str} (h : exKB2 K x y = true) : ExK K (He.ga K x) (He.fAd K (y, some "__init__")) := by
  obtain ⟨h1, h2⟩ := He.ba h
  have z := exK_of h1
  rw [of_decide_eq_true h2] at z
  exact z
theorem all1_of {α : Type} {l : List α} {p : α → Prop} [DecidablePred p] (h : (l.all fun x => decide (p x)) = true) : ∀ x ∈ l, p x := fun x m => of_decide_eq_true (List.all_eq_true.mp h x m)
theorem all2_of {α : Type} {l : List α} {p : α → α → Prop} [∀ x y, Decidable (p x y)] (h : (l.all fun x => l.all fun y => decide (p x y)) = true) : ∀ x ∈ l, ∀ y ∈ l, p x y := fun x m y n => of_decide_eq_true (List.all_eq_true.mp (List.all_eq_true.mp h x m) y n)
def excCB (K : PySem.W.Frag) (D : Addr) : Bool := xfB K D && (decide (PySem.W.findIn K (.ref D) "__class__" = some (some (.builtin "object.__class__"))) && (decide (PySem.W.specialIn K (.builtin "object.__class__") "__get__" = some (some (.builtin "getset_descriptor.__get__"))) &&
  (decide (PySem.W.takesIn K (.builtin "object.__class__") = some true) && decide (PySem.W.mroIn K D (.type "object") = some true))))
theorem excC_of {K : PySem.W.Frag} {D : Addr} (h : excCB K D = true) : ExcC K D := by
  obtain ⟨h1, h⟩ := He.ba h
  obtain ⟨h2, h⟩ := He.ba h
  obtain ⟨h3, h⟩ := He.ba h
  obtain ⟨h4, h5⟩ := He.ba h
  have x := xfB_ok h1
  exact ⟨x.ga, x.gg, x.exC, x.hdC, of_decide_eq_true h2, of_decide_eq_true h3, of_decide_eq_true h4, of_decide_eq_true h5⟩
theorem allC_of {K : PySem.W.Frag} {l : List Str} (h : (l.all fun x => excCB K (He.ga K x)) = true) : ∀ x ∈ l, ExcC K (He.ga K x) := fun x m => excC_of (List.all_eq_true.mp h x m)
end Lt

namespace Law
open PySem PySem.Spec PyProof.Rows L2 Lt
def cls15 : List Str := ["BadPart", "BadText", "BadTask", "BadCounter", "BadLate", "UnknownTask", "BadPlace", "BadEvent", "BadShift", "BadWeights", "BadWord", "BadRow", "BadWish", "BadRun", "LoopError"]
def top (i : Nat) : Stmt := PySem.Challenge.pw_looptimes_k01_errors_made.main.body.getD i (.Pass ⟨0, 0, 0, 0⟩)
abbrev s_BadPart_init : Stmt := inClass (top 2) 0
theorem sc_BadPart_init : FnScope ["self", "part"] ["self", "part"] (defScope s_BadPart_init) := ⟨rfl, rfl, rfl, by decide +kernel, rfl, by decide +kernel, by decide +kernel⟩
abbrev s_BadText_init : Stmt := inClass (top 3) 0
theorem sc_BadText_init : FnScope ["self", "line"] ["self", "line"] (defScope s_BadText_init) := ⟨rfl, rfl, rfl, by decide +kernel, rfl, by decide +kernel, by decide +kernel⟩
abbrev s_BadTask_init : Stmt := inClass (top 4) 0
theorem sc_BadTask_init : FnScope ["self", "index"] ["self", "index"] (defScope s_BadTask_init) := ⟨rfl, rfl, rfl, by decide +kernel, rfl, by decide +kernel, by decide +kernel⟩
abbrev s_BadCounter_init : Stmt := inClass (top 5) 0
theorem sc_BadCounter_init : FnScope ["self", "index"] ["self", "index"] (defScope s_BadCounter_init) := ⟨rfl, rfl, rfl, by decide +kernel, rfl, by decide +kernel, by decide +kernel⟩
abbrev s_BadLate_init : Stmt := inClass (top 6) 0
theorem sc_BadLate_init : FnScope ["self", "late"] ["self", "late"] (defScope s_BadLate_init) := ⟨rfl, rfl, rfl, by decide +kernel, rfl, by decide +kernel, by decide +kernel⟩
abbrev s_UnknownTask_init : Stmt := inClass (top 8) 0
theorem sc_UnknownTask_init : FnScope ["self", "name"] ["self", "name"] (defScope s_UnknownTask_init) := ⟨rfl, rfl, rfl, by decide +kernel, rfl, by decide +kernel, by decide +kernel⟩
abbrev s_BadPlace_init : Stmt := inClass (top 9) 0
theorem sc_BadPlace_init : FnScope ["self", "place"] ["self", "place"] (defScope s_BadPlace_init) := ⟨rfl, rfl, rfl, by decide +kernel, rfl, by decide +kernel, by decide +kernel⟩
abbrev s_BadEvent_init : Stmt := inClass (top 10) 0
theorem sc_BadEvent_init : FnScope ["self", "index"] ["self", "index"] (defScope s_BadEvent_init) := ⟨rfl, rfl, rfl, by decide +kernel, rfl, by decide +kernel, by decide +kernel⟩
abbrev s_BadShift_init : Stmt := inClass (top 11) 0
theorem sc_BadShift_init : FnScope ["self", "shift"] ["self", "shift"] (defScope s_BadShift_init) := ⟨rfl, rfl, rfl, by decide +kernel, rfl, by decide +kernel, by decide +kernel⟩
abbrev s_BadWeights_init : Stmt := inClass (top 14) 0
theorem sc_BadWeights_init : FnScope ["self", "index"] ["self", "index"] (defScope s_BadWeights_init) := ⟨rfl, rfl, rfl, by decide +kernel, rfl, by decide +kernel, by decide +kernel⟩
abbrev s_BadWord_init : Stmt := inClass (top 15) 0
theorem sc_BadWord_init : FnScope ["self", "word"] ["self", "word"] (defScope s_BadWord_init) := ⟨rfl, rfl, rfl, by decide +kernel, rfl, by decide +kernel, by decide +kernel⟩
abbrev s_BadRow_init : Stmt := inClass (top 7) 0
theorem sc_BadRow_init : FnScope ["self", "task", "place", "reason"] ["self", "task", "place", "reason"] (defScope s_BadRow_init) := ⟨rfl, rfl, rfl, by decide +kernel, rfl, by decide +kernel, by decide +kernel⟩
abbrev s_LoopError_init : Stmt := inClass (top 1) 0
theorem sc_LoopError_init : FnScope ["self"] ["self"] (defScope s_LoopError_init) := ⟨rfl, rfl, rfl, by decide +kernel, rfl, by decide +kernel, by decide +kernel⟩
abbrev s_l_fresh : Stmt := top 17
theorem sc_l_fresh : FnScope ["_law_script"] ["_law_script"] (defScope s_l_fresh) := ⟨rfl, rfl, rfl, by decide +kernel, rfl, by decide +kernel, by decide +kernel⟩
abbrev s_l_fill : Stmt := top 18
theorem sc_l_fill : FnScope ["_law_state", "_law_cells", "_law_nth", "_law_seed", "_law_k", "_law_prime", "_law_far"] ["_law_state"] (defScope s_l_fill) := ⟨rfl, rfl, rfl, by decide +kernel, rfl, by decide +kernel, by decide +kernel⟩
abbrev s_l_take : Stmt := top 19
theorem sc_l_take : FnScope ["_law_state", "_law_many", "_law_laps", "_law_digit"] ["_law_state", "_law_many"] (defScope s_l_take) := ⟨rfl, rfl, rfl, by decide +kernel, rfl, by decide +kernel, by decide +kernel⟩
abbrev s_l_one : Stmt := top 20
theorem sc_l_one : FnScope ["_law_state", "_law_things"] ["_law_state", "_law_things"] (defScope s_l_one) := ⟨rfl, rfl, rfl, by decide +kernel, rfl, by decide +kernel, by decide +kernel⟩
abbrev s_l_same : Stmt := top 21
theorem sc_l_same : FnScope ["_law_found", "_law_due", "_law_a", "_law_b"] ["_law_found", "_law_due"] (defScope s_l_same) := ⟨rfl, rfl, rfl, by decide +kernel, rfl, by decide +kernel, by decide +kernel⟩
abbrev s_l_any : Stmt := top 22
theorem sc_l_any : FnScope ["_law_state", "_law_deep", "_law_way", "_law_inner", "_law_k"] ["_law_state", "_law_deep"] (defScope s_l_any) := ⟨rfl, rfl, rfl, by decide +kernel, rfl, by decide +kernel, by decide +kernel⟩
abbrev s_l_with_one : Stmt := top 23
theorem sc_l_with_one : FnScope ["_law_x", "_law_found"] ["_law_x"] (defScope s_l_with_one) := ⟨rfl, rfl, rfl, by decide +kernel, rfl, by decide +kernel, by decide +kernel⟩
abbrev s_l_by_place : Stmt := top 24
theorem sc_l_by_place : FnScope ["_law_x", "_law_found"] ["_law_x"] (defScope s_l_by_place) := ⟨rfl, rfl, rfl, by decide +kernel, rfl, by decide +kernel, by decide +kernel⟩
abbrev s_l_held : Stmt := top 25
theorem sc_l_held : FnScope ["_law_made", "_law_found"] ["_law_made"] (defScope s_l_held) := ⟨rfl, rfl, rfl, by decide +kernel, rfl, by decide +kernel, by decide +kernel⟩
abbrev s_l_classes : Stmt := top 26
theorem sc_l_classes : FnScope ["_law_e", "_law_found"] ["_law_e"] (defScope s_l_classes) := ⟨rfl, rfl, rfl, by decide +kernel, rfl, by decide +kernel, by decide +kernel⟩
abbrev s_law : Stmt := top 27
theorem sc_law : FnScope ["_law_script", "_law_state", "_law_turn", "_law_x", "_law_y", "_law_z", "_law_ones", "_law_rows", "_law_thing", "_law_made", "_law_k", "_law_e", "_law_base", "_law_told", "_law_at"] ["_law_script"] (defScope s_law) := ⟨rfl, rfl, rfl, by decide +kernel, rfl, by decide +kernel, by decide +kernel⟩
def gRow {α : Type} (vs zs : List α) : List α := match vs, zs with
  | [a], [r, t, p] => [a, t, p, r]
  | _, _ => []
theorem gRow_rel {vs : List V} {us : List Value} {zs : List V} {ws : List Value} (r1 : Vals vs us) (r2 : Vals zs ws) : Vals (gRow vs zs) (gRow us ws) := by
  cases r1 with
  | nil => exact .nil
  | cons a r =>
    cases r with
    | cons b r => exact .nil
    | nil =>
      cases r2 with
      | nil => exact .nil
      | cons z1 r =>
        cases r with
        | nil => exact .nil
        | cons z2 r =>
          cases r with
          | nil => exact .nil
          | cons z3 r =>
            cases r with
            | nil => exact .cons a (.cons z2 (.cons z3 (.cons z1 .nil)))
            | cons _ _ => exact .nil
def d_BadPart_init : He.DefD := ⟨("BadPart", some "__init__"), "__init__", "BadPart.__init__", defArgs s_BadPart_init, defBody s_BadPart_init, defScope s_BadPart_init, [], []⟩
def d_BadText_init : He.DefD := ⟨("BadText", some "__init__"), "__init__", "BadText.__init__", defArgs s_BadText_init, defBody s_BadText_init, defScope s_BadText_init, [], []⟩
def d_BadTask_init : He.DefD := ⟨("BadTask", some "__init__"), "__init__", "BadTask.__init__", defArgs s_BadTask_init, defBody s_BadTask_init, defScope s_BadTask_init, [], []⟩
def d_BadCounter_init : He.DefD := ⟨("BadCounter", some "__init__"), "__init__", "BadCounter.__init__", defArgs s_BadCounter_init, defBody s_BadCounter_init, defScope s_BadCounter_init, [], []⟩
def d_BadLate_init : He.DefD := ⟨("BadLate", some "__init__"), "__init__", "BadLate.__init__", defArgs s_BadLate_init, defBody s_BadLate_init, defScope s_BadLate_init, [], []⟩
def d_UnknownTask_init : He.DefD := ⟨("UnknownTask", some "__init__"), "__init__", "UnknownTask.__init__", defArgs s_UnknownTask_init, defBody s_UnknownTask_init, defScope s_UnknownTask_init, [], []⟩
def d_BadPlace_init : He.DefD := ⟨("BadPlace", some "__init__"), "__init__", "BadPlace.__init__", defArgs s_BadPlace_init, defBody s_BadPlace_init, defScope s_BadPlace_init, [], []⟩
def d_BadEvent_init : He.DefD := ⟨("BadEvent", some "__init__"), "__init__", "BadEvent.__init__", defArgs s_BadEvent_init, defBody s_BadEvent_init, defScope s_BadEvent_init, [], []⟩
def d_BadShift_init : He.DefD := ⟨("BadShift", some "__init__"), "__init__", "BadShift.__init__", defArgs s_BadShift_init, defBody s_BadShift_init, defScope s_BadShift_init, [], []⟩
def d_BadWeights_init : He.DefD := ⟨("BadWeights", some "__init__"), "__init__", "BadWeights.__init__", defArgs s_BadWeights_init, defBody s_BadWeights_init, defScope s_BadWeights_init, [], []⟩
def d_BadWord_init : He.DefD := ⟨("BadWord", some "__init__"), "__init__", "BadWord.__init__", defArgs s_BadWord_init, defBody s_BadWord_init, defScope s_BadWord_init, [], []⟩
def d_BadRow_init : He.DefD := ⟨("BadRow", some "__init__"), "__init__", "BadRow.__init__", defArgs s_BadRow_init, defBody s_BadRow_init, defScope s_BadRow_init, [], []⟩
def d_LoopError_init : He.DefD := ⟨("LoopError", some "__init__"), "__init__", "LoopError.__init__", defArgs s_LoopError_init, defBody s_LoopError_init, defScope s_LoopError_init, [], []⟩
def d_l_fresh : He.DefD := ⟨("_law_fresh", none), "_law_fresh", "_law_fresh", defArgs s_l_fresh, defBody s_l_fresh, defScope s_l_fresh, [], []⟩
def d_l_fill : He.DefD := ⟨("_law_fill", none), "_law_fill", "_law_fill", defArgs s_l_fill, defBody s_l_fill, defScope s_l_fill, [], []⟩
def d_l_take : He.DefD := ⟨("_law_take", none), "_law_take", "_law_take", defArgs s_l_take, defBody s_l_take, defScope s_l_take, [], []⟩
def d_l_one : He.DefD := ⟨("_law_one", none), "_law_one", "_law_one", defArgs s_l_one, defBody s_l_one, defScope s_l_one, [], []⟩
def d_l_same : He.DefD := ⟨("_law_same", none), "_law_same", "_law_same", defArgs s_l_same, defBody s_l_same, defScope s_l_same, [], []⟩
def d_l_any : He.DefD := ⟨("_law_any", none), "_law_any", "_law_any", defArgs s_l_any, defBody s_l_any, defScope s_l_any, [], []⟩
def d_l_with_one : He.DefD := ⟨("_law_with_one", none), "_law_with_one", "_law_with_one", defArgs s_l_with_one, defBody s_l_with_one, defScope s_l_with_one, [], []⟩
def d_l_by_place : He.DefD := ⟨("_law_by_place", none), "_law_by_place", "_law_by_place", defArgs s_l_by_place, defBody s_l_by_place, defScope s_l_by_place, [], []⟩
def d_l_held : He.DefD := ⟨("_law_held", none), "_law_held", "_law_held", defArgs s_l_held, defBody s_l_held, defScope s_l_held, [], []⟩
def d_l_classes : He.DefD := ⟨("_law_classes", none), "_law_classes", "_law_classes", defArgs s_l_classes, defBody s_l_classes, defScope s_l_classes, [], []⟩
def d_law : He.DefD := ⟨("law", none), "law", "law", defArgs s_law, defBody s_law, defScope s_law, [], []⟩
def fn : List He.DefD := [d_BadPart_init, d_BadText_init, d_BadTask_init, d_BadCounter_init, d_BadLate_init, d_UnknownTask_init, d_BadPlace_init, d_BadEvent_init, d_BadShift_init, d_BadWeights_init, d_BadWord_init, d_BadRow_init, d_LoopError_init, d_l_fresh, d_l_fill, d_l_take, d_l_one, d_l_same, d_l_any, d_l_with_one, d_l_by_place, d_l_held, d_l_classes, d_law]
def fa : List He.Fa := [.glo "_law_fresh",
  .glo "_law_fill",
  .glo "_law_take",
  .glo "_law_one",
  .glo "_law_same",
  .glo "_law_any",
  .glo "_law_with_one",
  .glo "_law_by_place",
  .glo "_law_held",
  .glo "_law_classes",
  .glo "law",
  .free "len",
  .free "int",
  .free "abs",
  .free "range",
  .free "enumerate",
  .free "isinstance",
  .free "all",
  .free "any",
  .free "zip",
  .free "bool",
  .free "list",
  .free "tuple",
  .free "str",
  .free "ValueError",
  .glo "BadPart",
  .noat "BadPart" "part",
  .glo "BadText",
  .noat "BadText" "line",
  .glo "BadTask",
  .noat "BadTask" "index",
  .glo "BadCounter",
  .noat "BadCounter" "index",
  .glo "BadLate",
  .noat "BadLate" "late",
  .glo "UnknownTask",
  .noat "UnknownTask" "name",
  .glo "BadPlace",
  .noat "BadPlace" "place",
  .glo "BadEvent",
  .noat "BadEvent" "index",
  .glo "BadShift",
  .noat "BadShift" "shift",
  .glo "BadWeights",
  .noat "BadWeights" "index",
  .glo "BadWord",
  .noat "BadWord" "word",
  .glo "BadRow",
  .noat "BadRow" "task",
  .noat "BadRow" "place",
  .noat "BadRow" "reason",
  .glo "LoopError"]
def fs : List (PySem.W.Frag → Bool) := [(fun K => Lt.clsValB K (.type "ValueError") "__init__" (.builtin "ValueError.__init__")),
  (fun K => He.eqO (PySem.W.nsIn K mainGlobals "BadWish") (some (some (.ref (He.ga K "BadWish"))))),
  (fun K => Lt.exKB2 K "BadWish" "LoopError"),
  (fun K => He.eqO (PySem.W.nsIn K mainGlobals "BadRun") (some (some (.ref (He.ga K "BadRun"))))),
  (fun K => Lt.exKB2 K "BadRun" "LoopError"),
  (fun K => cls15.all fun x => cls15.all fun y => decide (PySem.W.kitOne K (.ref (He.ga K x)) (.ref (He.ga K y)) = some (decide (x = y) || decide (y = "LoopError")))),
  (fun K => cls15.all fun x => decide (PySem.W.kitOne K (.ref (He.ga K x)) (.type "ValueError") = some true)),
  (fun K => cls15.all fun x => Lt.excCB K (He.ga K x)),
  (fun K => Lt.exKB K "BadPart"),
  (fun K => Lt.exKB K "BadText"),
  (fun K => Lt.exKB K "BadTask"),
  (fun K => Lt.exKB K "BadCounter"),
  (fun K => Lt.exKB K "BadLate"),
  (fun K => Lt.exKB K "UnknownTask"),
  (fun K => Lt.exKB K "BadPlace"),
  (fun K => Lt.exKB K "BadEvent"),
  (fun K => Lt.exKB K "BadShift"),
  (fun K => Lt.exKB K "BadWeights"),
  (fun K => Lt.exKB K "BadWord"),
  (fun K => Lt.exKB K "BadRow"),
  (fun K => Lt.exKB K "LoopError")]
structure Txt (K : PySem.W.Frag) (mg : Str → Option Value) where
  fd_BadPart_init : FuncData
  F_BadPart_init : FunD K "__init__" "BadPart.__init__" (defArgs s_BadPart_init) (defBody s_BadPart_init) (defScope s_BadPart_init) [] [] (He.fAd K ("BadPart", some "__init__")) fd_BadPart_init
  fd_BadText_init : FuncData
  F_BadText_init : FunD K "__init__" "BadText.__init__" (defArgs s_BadText_init) (defBody s_BadText_init) (defScope s_BadText_init) [] [] (He.fAd K ("BadText", some "__init__")) fd_BadText_init
  fd_BadTask_init : FuncData
  F_BadTask_init : FunD K "__init__" "BadTask.__init__" (defArgs s_BadTask_init) (defBody s_BadTask_init) (defScope s_BadTask_init) [] [] (He.fAd K ("BadTask", some "__init__")) fd_BadTask_init
  fd_BadCounter_init : FuncData
  F_BadCounter_init : FunD K "__init__" "BadCounter.__init__" (defArgs s_BadCounter_init) (defBody s_BadCounter_init) (defScope s_BadCounter_init) [] [] (He.fAd K ("BadCounter", some "__init__")) fd_BadCounter_init
  fd_BadLate_init : FuncData
  F_BadLate_init : FunD K "__init__" "BadLate.__init__" (defArgs s_BadLate_init) (defBody s_BadLate_init) (defScope s_BadLate_init) [] [] (He.fAd K ("BadLate", some "__init__")) fd_BadLate_init
  fd_UnknownTask_init : FuncData
  F_UnknownTask_init : FunD K "__init__" "UnknownTask.__init__" (defArgs s_UnknownTask_init) (defBody s_UnknownTask_init) (defScope s_UnknownTask_init) [] [] (He.fAd K ("UnknownTask", some "__init__")) fd_UnknownTask_init
  fd_BadPlace_init : FuncData
  F_BadPlace_init : FunD K "__init__" "BadPlace.__init__" (defArgs s_BadPlace_init) (defBody s_BadPlace_init) (defScope s_BadPlace_init) [] [] (He.fAd K ("BadPlace", some "__init__")) fd_BadPlace_init
  fd_BadEvent_init : FuncData
  F_BadEvent_init : FunD K "__init__" "BadEvent.__init__" (defArgs s_BadEvent_init) (defBody s_BadEvent_init) (defScope s_BadEvent_init) [] [] (He.fAd K ("BadEvent", some "__init__")) fd_BadEvent_init
  fd_BadShift_init : FuncData
  F_BadShift_init : FunD K "__init__" "BadShift.__init__" (defArgs s_BadShift_init) (defBody s_BadShift_init) (defScope s_BadShift_init) [] [] (He.fAd K ("BadShift", some "__init__")) fd_BadShift_init
  fd_BadWeights_init : FuncData
  F_BadWeights_init : FunD K "__init__" "BadWeights.__init__" (defArgs s_BadWeights_init) (defBody s_BadWeights_init) (defScope s_BadWeights_init) [] [] (He.fAd K ("BadWeights", some "__init__")) fd_BadWeights_init
  fd_BadWord_init : FuncData
  F_BadWord_init : FunD K "__init__" "BadWord.__init__" (defArgs s_BadWord_init) (defBody s_BadWord_init) (defScope s_BadWord_init) [] [] (He.fAd K ("BadWord", some "__init__")) fd_BadWord_init
  fd_BadRow_init : FuncData
  F_BadRow_init : FunD K "__init__" "BadRow.__init__" (defArgs s_BadRow_init) (defBody s_BadRow_init) (defScope s_BadRow_init) [] [] (He.fAd K ("BadRow", some "__init__")) fd_BadRow_init
  fd_LoopError_init : FuncData
  F_LoopError_init : FunD K "__init__" "LoopError.__init__" (defArgs s_LoopError_init) (defBody s_LoopError_init) (defScope s_LoopError_init) [] [] (He.fAd K ("LoopError", some "__init__")) fd_LoopError_init
  fd_l_fresh : FuncData
  F_l_fresh : FunD K "_law_fresh" "_law_fresh" (defArgs s_l_fresh) (defBody s_l_fresh) (defScope s_l_fresh) [] [] (He.fAd K ("_law_fresh", none)) fd_l_fresh
  g_l_fresh : mg "_law_fresh" = some (.ref (He.fAd K ("_law_fresh", none)))
  fd_l_fill : FuncData
  F_l_fill : FunD K "_law_fill" "_law_fill" (defArgs s_l_fill) (defBody s_l_fill) (defScope s_l_fill) [] [] (He.fAd K ("_law_fill", none)) fd_l_fill
  g_l_fill : mg "_law_fill" = some (.ref (He.fAd K ("_law_fill", none)))
  fd_l_take : FuncData
  F_l_take : FunD K "_law_take" "_law_take" (defArgs s_l_take) (defBody s_l_take) (defScope s_l_take) [] [] (He.fAd K ("_law_take", none)) fd_l_take
  g_l_take : mg "_law_take" = some (.ref (He.fAd K ("_law_take", none)))
  fd_l_one : FuncData
  F_l_one : FunD K "_law_one" "_law_one" (defArgs s_l_one) (defBody s_l_one) (defScope s_l_one) [] [] (He.fAd K ("_law_one", none)) fd_l_one
  g_l_one : mg "_law_one" = some (.ref (He.fAd K ("_law_one", none)))
  fd_l_same : FuncData
  F_l_same : FunD K "_law_same" "_law_same" (defArgs s_l_same) (defBody s_l_same) (defScope s_l_same) [] [] (He.fAd K ("_law_same", none)) fd_l_same
  g_l_same : mg "_law_same" = some (.ref (He.fAd K ("_law_same", none)))
  fd_l_any : FuncData
  F_l_any : FunD K "_law_any" "_law_any" (defArgs s_l_any) (defBody s_l_any) (defScope s_l_any) [] [] (He.fAd K ("_law_any", none)) fd_l_any
  g_l_any : mg "_law_any" = some (.ref (He.fAd K ("_law_any", none)))
  fd_l_with_one : FuncData
  F_l_with_one : FunD K "_law_with_one" "_law_with_one" (defArgs s_l_with_one) (defBody s_l_with_one) (defScope s_l_with_one) [] [] (He.fAd K ("_law_with_one", none)) fd_l_with_one
  g_l_with_one : mg "_law_with_one" = some (.ref (He.fAd K ("_law_with_one", none)))
  fd_l_by_place : FuncData
  F_l_by_place : FunD K "_law_by_place" "_law_by_place" (defArgs s_l_by_place) (defBody s_l_by_place) (defScope s_l_by_place) [] [] (He.fAd K ("_law_by_place", none)) fd_l_by_place
  g_l_by_place : mg "_law_by_place" = some (.ref (He.fAd K ("_law_by_place", none)))
  fd_l_held : FuncData
  F_l_held : FunD K "_law_held" "_law_held" (defArgs s_l_held) (defBody s_l_held) (defScope s_l_held) [] [] (He.fAd K ("_law_held", none)) fd_l_held
  g_l_held : mg "_law_held" = some (.ref (He.fAd K ("_law_held", none)))
  fd_l_classes : FuncData
  F_l_classes : FunD K "_law_classes" "_law_classes" (defArgs s_l_classes) (defBody s_l_classes) (defScope s_l_classes) [] [] (He.fAd K ("_law_classes", none)) fd_l_classes
  g_l_classes : mg "_law_classes" = some (.ref (He.fAd K ("_law_classes", none)))
  fd_law : FuncData
  F_law : FunD K "law" "law" (defArgs s_law) (defBody s_law) (defScope s_law) [] [] (He.fAd K ("law", none)) fd_law
  g_law : mg "law" = some (.ref (He.fAd K ("law", none)))
  n_len : mg "len" = none
  n_int : mg "int" = none
  n_abs : mg "abs" = none
  n_range : mg "range" = none
  n_enumerate : mg "enumerate" = none
  n_isinstance : mg "isinstance" = none
  n_all : mg "all" = none
  n_any : mg "any" = none
  n_zip : mg "zip" = none
  n_bool : mg "bool" = none
  n_list : mg "list" = none
  n_tuple : mg "tuple" = none
  n_str : mg "str" = none
  n_ValueError : mg "ValueError" = none
  g_BadPart : mg "BadPart" = some (.ref (He.ga K "BadPart"))
  a_BadPart_part : PySem.W.findIn K (.ref (He.ga K "BadPart")) "part" = some none
  g_BadText : mg "BadText" = some (.ref (He.ga K "BadText"))
  a_BadText_line : PySem.W.findIn K (.ref (He.ga K "BadText")) "line" = some none
  g_BadTask : mg "BadTask" = some (.ref (He.ga K "BadTask"))
  a_BadTask_index : PySem.W.findIn K (.ref (He.ga K "BadTask")) "index" = some none
  g_BadCounter : mg "BadCounter" = some (.ref (He.ga K "BadCounter"))
  a_BadCounter_index : PySem.W.findIn K (.ref (He.ga K "BadCounter")) "index" = some none
  g_BadLate : mg "BadLate" = some (.ref (He.ga K "BadLate"))
  a_BadLate_late : PySem.W.findIn K (.ref (He.ga K "BadLate")) "late" = some none
  g_UnknownTask : mg "UnknownTask" = some (.ref (He.ga K "UnknownTask"))
  a_UnknownTask_name : PySem.W.findIn K (.ref (He.ga K "UnknownTask")) "name" = some none
  g_BadPlace : mg "BadPlace" = some (.ref (He.ga K "BadPlace"))
  a_BadPlace_place : PySem.W.findIn K (.ref (He.ga K "BadPlace")) "place" = some none
  g_BadEvent : mg "BadEvent" = some (.ref (He.ga K "BadEvent"))
  a_BadEvent_index : PySem.W.findIn K (.ref (He.ga K "BadEvent")) "index" = some none
  g_BadShift : mg "BadShift" = some (.ref (He.ga K "BadShift"))
  a_BadShift_shift : PySem.W.findIn K (.ref (He.ga K "BadShift")) "shift" = some none
  g_BadWeights : mg "BadWeights" = some (.ref (He.ga K "BadWeights"))
  a_BadWeights_index : PySem.W.findIn K (.ref (He.ga K "BadWeights")) "index" = some none
  g_BadWord : mg "BadWord" = some (.ref (He.ga K "BadWord"))
  a_BadWord_word : PySem.W.findIn K (.ref (He.ga K "BadWord")) "word" = some none
  g_BadRow : mg "BadRow" = some (.ref (He.ga K "BadRow"))
  a_BadRow_task : PySem.W.findIn K (.ref (He.ga K "BadRow")) "task" = some none
  a_BadRow_place : PySem.W.findIn K (.ref (He.ga K "BadRow")) "place" = some none
  a_BadRow_reason : PySem.W.findIn K (.ref (He.ga K "BadRow")) "reason" = some none
  g_LoopError : mg "LoopError" = some (.ref (He.ga K "LoopError"))
  vV : PySem.W.findCls K (.type "ValueError") (.type "type") "__init__" = some (.val (.builtin "ValueError.__init__"))
  g_BadWish : mg "BadWish" = some (.ref (He.ga K "BadWish"))
  x_BadWish : Lt.ExK K (He.ga K "BadWish") (He.fAd K ("LoopError", some "__init__"))
  g_BadRun : mg "BadRun" = some (.ref (He.ga K "BadRun"))
  x_BadRun : Lt.ExK K (He.ga K "BadRun") (He.fAd K ("LoopError", some "__init__"))
  kitM : ∀ x ∈ cls15, ∀ y ∈ cls15, PySem.W.kitOne K (.ref (He.ga K x)) (.ref (He.ga K y)) = some (decide (x = y) || decide (y = "LoopError"))
  kitV : ∀ x ∈ cls15, PySem.W.kitOne K (.ref (He.ga K x)) (.type "ValueError") = some true
  exC : ∀ x ∈ cls15, ExcC K (He.ga K x)
  x_BadPart : Lt.ExK K (He.ga K "BadPart") (He.fAd K ("BadPart", some "__init__"))
  x_BadText : Lt.ExK K (He.ga K "BadText") (He.fAd K ("BadText", some "__init__"))
  x_BadTask : Lt.ExK K (He.ga K "BadTask") (He.fAd K ("BadTask", some "__init__"))
  x_BadCounter : Lt.ExK K (He.ga K "BadCounter") (He.fAd K ("BadCounter", some "__init__"))
  x_BadLate : Lt.ExK K (He.ga K "BadLate") (He.fAd K ("BadLate", some "__init__"))
  x_UnknownTask : Lt.ExK K (He.ga K "UnknownTask") (He.fAd K ("UnknownTask", some "__init__"))
  x_BadPlace : Lt.ExK K (He.ga K "BadPlace") (He.fAd K ("BadPlace", some "__init__"))
  x_BadEvent : Lt.ExK K (He.ga K "BadEvent") (He.fAd K ("BadEvent", some "__init__"))
  x_BadShift : Lt.ExK K (He.ga K "BadShift") (He.fAd K ("BadShift", some "__init__"))
  x_BadWeights : Lt.ExK K (He.ga K "BadWeights") (He.fAd K ("BadWeights", some "__init__"))
  x_BadWord : Lt.ExK K (He.ga K "BadWord") (He.fAd K ("BadWord", some "__init__"))
  x_BadRow : Lt.ExK K (He.ga K "BadRow") (He.fAd K ("BadRow", some "__init__"))
  x_LoopError : Lt.ExK K (He.ga K "LoopError") (He.fAd K ("LoopError", some "__init__"))
  b_BadPart_init : Binds K fd_BadPart_init ["self", "part"] []
  b_BadText_init : Binds K fd_BadText_init ["self", "line"] []
  b_BadTask_init : Binds K fd_BadTask_init ["self", "index"] []
  b_BadCounter_init : Binds K fd_BadCounter_init ["self", "index"] []
  b_BadLate_init : Binds K fd_BadLate_init ["self", "late"] []
  b_UnknownTask_init : Binds K fd_UnknownTask_init ["self", "name"] []
  b_BadPlace_init : Binds K fd_BadPlace_init ["self", "place"] []
  b_BadEvent_init : Binds K fd_BadEvent_init ["self", "index"] []
  b_BadShift_init : Binds K fd_BadShift_init ["self", "shift"] []
  b_BadWeights_init : Binds K fd_BadWeights_init ["self", "index"] []
  b_BadWord_init : Binds K fd_BadWord_init ["self", "word"] []
  b_BadRow_init : Binds K fd_BadRow_init ["self", "task", "place", "reason"] []
  b_LoopError_init : Binds K fd_LoopError_init ["self"] []
  b_l_fresh : Binds K fd_l_fresh ["_law_script"] []
  b_l_fill : Binds K fd_l_fill ["_law_state"] []
  b_l_take : Binds K fd_l_take ["_law_state", "_law_many"] []
  b_l_one : Binds K fd_l_one ["_law_state", "_law_things"] []
  b_l_same : Binds K fd_l_same ["_law_found", "_law_due"] []
  b_l_any : Binds K fd_l_any ["_law_state", "_law_deep"] []
  b_l_with_one : Binds K fd_l_with_one ["_law_x"] []
  b_l_by_place : Binds K fd_l_by_place ["_law_x"] []
  b_l_held : Binds K fd_l_held ["_law_made"] []
  b_l_classes : Binds K fd_l_classes ["_law_e"] []
  b_law : Binds K fd_law ["_law_script"] []
  kb_BadPart_init_part : ∃ g, KBn K fd_BadPart_init ["self", "part"] 1 ["part"] g (fun vs zs => vs ++ zs)
  kb_BadText_init_line : ∃ g, KBn K fd_BadText_init ["self", "line"] 1 ["line"] g (fun vs zs => vs ++ zs)
  kb_BadTask_init_index : ∃ g, KBn K fd_BadTask_init ["self", "index"] 1 ["index"] g (fun vs zs => vs ++ zs)
  kb_BadCounter_init_index : ∃ g, KBn K fd_BadCounter_init ["self", "index"] 1 ["index"] g (fun vs zs => vs ++ zs)
  kb_BadLate_init_late : ∃ g, KBn K fd_BadLate_init ["self", "late"] 1 ["late"] g (fun vs zs => vs ++ zs)
  kb_UnknownTask_init_name : ∃ g, KBn K fd_UnknownTask_init ["self", "name"] 1 ["name"] g (fun vs zs => vs ++ zs)
  kb_BadPlace_init_place : ∃ g, KBn K fd_BadPlace_init ["self", "place"] 1 ["place"] g (fun vs zs => vs ++ zs)
  kb_BadEvent_init_index : ∃ g, KBn K fd_BadEvent_init ["self", "index"] 1 ["index"] g (fun vs zs => vs ++ zs)
  kb_BadShift_init_shift : ∃ g, KBn K fd_BadShift_init ["self", "shift"] 1 ["shift"] g (fun vs zs => vs ++ zs)
  kb_BadWeights_init_index : ∃ g, KBn K fd_BadWeights_init ["self", "index"] 1 ["index"] g (fun vs zs => vs ++ zs)
  kb_BadWord_init_word : ∃ g, KBn K fd_BadWord_init ["self", "word"] 1 ["word"] g (fun vs zs => vs ++ zs)
  kb_BadRow_init_reason_task_place : ∃ g, KBn K fd_BadRow_init ["self", "task", "place", "reason"] 1 ["reason", "task", "place"] g (fun vs zs => gRow vs zs)
theorem txt_of {K : PySem.W.Frag} {h : Heap} {mg : Str → Option Value} (X : K.In h) (G : h.Ns mainGlobals mg) (c : Lt.SaysM fa fs fn K) : Nonempty (Txt K mg) := by
  obtain ⟨fd_BadPart_init, F_BadPart_init⟩ := c.def_ 0 (d := d_BadPart_init) rfl
  have b_BadPart_init := FunD.bindsN (ps := ["self", "part"]) F_BadPart_init fun _ _ _ _ _ _ us hl => match us, hl with | [_, _], _ => rfl
  obtain ⟨fd_BadText_init, F_BadText_init⟩ := c.def_ 1 (d := d_BadText_init) rfl
  have b_BadText_init := FunD.bindsN (ps := ["self", "line"]) F_BadText_init fun _ _ _ _ _ _ us hl => match us, hl with | [_, _], _ => rfl
  obtain ⟨fd_BadTask_init, F_BadTask_init⟩ := c.def_ 2 (d := d_BadTask_init) rfl
  have b_BadTask_init := FunD.bindsN (ps := ["self", "index"]) F_BadTask_init fun _ _ _ _ _ _ us hl => match us, hl with | [_, _], _ => rfl
  obtain ⟨fd_BadCounter_init, F_BadCounter_init⟩ := c.def_ 3 (d := d_BadCounter_init) rfl
  have b_BadCounter_init := FunD.bindsN (ps := ["self", "index"]) F_BadCounter_init fun _ _ _ _ _ _ us hl => match us, hl with | [_, _], _ => rfl
  obtain ⟨fd_BadLate_init, F_BadLate_init⟩ := c.def_ 4 (d := d_BadLate_init) rfl
  have b_BadLate_init := FunD.bindsN (ps := ["self", "late"]) F_BadLate_init fun _ _ _ _ _ _ us hl => match us, hl with | [_, _], _ => rfl
  obtain ⟨fd_UnknownTask_init, F_UnknownTask_init⟩ := c.def_ 5 (d := d_UnknownTask_init) rfl
  have b_UnknownTask_init := FunD.bindsN (ps := ["self", "name"]) F_UnknownTask_init fun _ _ _ _ _ _ us hl => match us, hl with | [_, _], _ => rfl
  obtain ⟨fd_BadPlace_init, F_BadPlace_init⟩ := c.def_ 6 (d := d_BadPlace_init) rfl
  have b_BadPlace_init := FunD.bindsN (ps := ["self", "place"]) F_BadPlace_init fun _ _ _ _ _ _ us hl => match us, hl with | [_, _], _ => rfl
  obtain ⟨fd_BadEvent_init, F_BadEvent_init⟩ := c.def_ 7 (d := d_BadEvent_init) rfl
  have b_BadEvent_init := FunD.bindsN (ps := ["self", "index"]) F_BadEvent_init fun _ _ _ _ _ _ us hl => match us, hl with | [_, _], _ => rfl
  obtain ⟨fd_BadShift_init, F_BadShift_init⟩ := c.def_ 8 (d := d_BadShift_init) rfl
  have b_BadShift_init := FunD.bindsN (ps := ["self", "shift"]) F_BadShift_init fun _ _ _ _ _ _ us hl => match us, hl with | [_, _], _ => rfl
  obtain ⟨fd_BadWeights_init, F_BadWeights_init⟩ := c.def_ 9 (d := d_BadWeights_init) rfl
  have b_BadWeights_init := FunD.bindsN (ps := ["self", "index"]) F_BadWeights_init fun _ _ _ _ _ _ us hl => match us, hl with | [_, _], _ => rfl
  obtain ⟨fd_BadWord_init, F_BadWord_init⟩ := c.def_ 10 (d := d_BadWord_init) rfl
  have b_BadWord_init := FunD.bindsN (ps := ["self", "word"]) F_BadWord_init fun _ _ _ _ _ _ us hl => match us, hl with | [_, _], _ => rfl
  obtain ⟨fd_BadRow_init, F_BadRow_init⟩ := c.def_ 11 (d := d_BadRow_init) rfl
  have b_BadRow_init := FunD.bindsN (ps := ["self", "task", "place", "reason"]) F_BadRow_init fun _ _ _ _ _ _ us hl => match us, hl with | [_, _, _, _], _ => rfl
  obtain ⟨fd_LoopError_init, F_LoopError_init⟩ := c.def_ 12 (d := d_LoopError_init) rfl
  have b_LoopError_init := FunD.bindsN (ps := ["self"]) F_LoopError_init fun _ _ _ _ _ _ us hl => match us, hl with | [_], _ => rfl
  obtain ⟨fd_l_fresh, F_l_fresh⟩ := c.def_ 13 (d := d_l_fresh) rfl
  have b_l_fresh := FunD.bindsN (ps := ["_law_script"]) F_l_fresh fun _ _ _ _ _ _ us hl => match us, hl with | [_], _ => rfl
  obtain ⟨fd_l_fill, F_l_fill⟩ := c.def_ 14 (d := d_l_fill) rfl
  have b_l_fill := FunD.bindsN (ps := ["_law_state"]) F_l_fill fun _ _ _ _ _ _ us hl => match us, hl with | [_], _ => rfl
  obtain ⟨fd_l_take, F_l_take⟩ := c.def_ 15 (d := d_l_take) rfl
  have b_l_take := FunD.bindsN (ps := ["_law_state", "_law_many"]) F_l_take fun _ _ _ _ _ _ us hl => match us, hl with | [_, _], _ => rfl
  obtain ⟨fd_l_one, F_l_one⟩ := c.def_ 16 (d := d_l_one) rfl
  have b_l_one := FunD.bindsN (ps := ["_law_state", "_law_things"]) F_l_one fun _ _ _ _ _ _ us hl => match us, hl with | [_, _], _ => rfl
  obtain ⟨fd_l_same, F_l_same⟩ := c.def_ 17 (d := d_l_same) rfl
  have b_l_same := FunD.bindsN (ps := ["_law_found", "_law_due"]) F_l_same fun _ _ _ _ _ _ us hl => match us, hl with | [_, _], _ => rfl
  obtain ⟨fd_l_any, F_l_any⟩ := c.def_ 18 (d := d_l_any) rfl
  have b_l_any := FunD.bindsN (ps := ["_law_state", "_law_deep"]) F_l_any fun _ _ _ _ _ _ us hl => match us, hl with | [_, _], _ => rfl
  obtain ⟨fd_l_with_one, F_l_with_one⟩ := c.def_ 19 (d := d_l_with_one) rfl
  have b_l_with_one := FunD.bindsN (ps := ["_law_x"]) F_l_with_one fun _ _ _ _ _ _ us hl => match us, hl with | [_], _ => rfl
  obtain ⟨fd_l_by_place, F_l_by_place⟩ := c.def_ 20 (d := d_l_by_place) rfl
  have b_l_by_place := FunD.bindsN (ps := ["_law_x"]) F_l_by_place fun _ _ _ _ _ _ us hl => match us, hl with | [_], _ => rfl
  obtain ⟨fd_l_held, F_l_held⟩ := c.def_ 21 (d := d_l_held) rfl
  have b_l_held := FunD.bindsN (ps := ["_law_made"]) F_l_held fun _ _ _ _ _ _ us hl => match us, hl with | [_], _ => rfl
  obtain ⟨fd_l_classes, F_l_classes⟩ := c.def_ 22 (d := d_l_classes) rfl
  have b_l_classes := FunD.bindsN (ps := ["_law_e"]) F_l_classes fun _ _ _ _ _ _ us hl => match us, hl with | [_], _ => rfl
  obtain ⟨fd_law, F_law⟩ := c.def_ 23 (d := d_law) rfl
  have b_law := FunD.bindsN (ps := ["_law_script"]) F_law fun _ _ _ _ _ _ us hl => match us, hl with | [_], _ => rfl
  have kb_BadPart_init_part : ∃ g, KBn K fd_BadPart_init ["self", "part"] 1 ["part"] g (fun vs zs => vs ++ zs) := by
    exact kbE (ps := ["self", "part"]) (ks := ["part"]) F_BadPart_init (fun vs zs => vs ++ zs) (fun kV doc pm an cdv ct us ws hu hw => match us, hu, ws, hw with | [_], _, [_], _ => rfl) (fun r1 r2 => r1.append r2)
  have kb_BadText_init_line : ∃ g, KBn K fd_BadText_init ["self", "line"] 1 ["line"] g (fun vs zs => vs ++ zs) := by
    exact kbE (ps := ["self", "line"]) (ks := ["line"]) F_BadText_init (fun vs zs => vs ++ zs) (fun kV doc pm an cdv ct us ws hu hw => match us, hu, ws, hw with | [_], _, [_], _ => rfl) (fun r1 r2 => r1.append r2)
  have kb_BadTask_init_index : ∃ g, KBn K fd_BadTask_init ["self", "index"] 1 ["index"] g (fun vs zs => vs ++ zs) := by
    exact kbE (ps := ["self", "index"]) (ks := ["index"]) F_BadTask_init (fun vs zs => vs ++ zs) (fun kV doc pm an cdv ct us ws hu hw => match us, hu, ws, hw with | [_], _, [_], _ => rfl) (fun r1 r2 => r1.append r2)
  have kb_BadCounter_init_index : ∃ g, KBn K fd_BadCounter_init ["self", "index"] 1 ["index"] g (fun vs zs => vs ++ zs) := by
    exact kbE (ps := ["self", "index"]) (ks := ["index"]) F_BadCounter_init (fun vs zs => vs ++ zs) (fun kV doc pm an cdv ct us ws hu hw => match us, hu, ws, hw with | [_], _, [_], _ => rfl) (fun r1 r2 => r1.append r2)
  have kb_BadLate_init_late : ∃ g, KBn K fd_BadLate_init ["self", "late"] 1 ["late"] g (fun vs zs => vs ++ zs) := by
    exact kbE (ps := ["self", "late"]) (ks := ["late"]) F_BadLate_init (fun vs zs => vs ++ zs) (fun kV doc pm an cdv ct us ws hu hw => match us, hu, ws, hw with | [_], _, [_], _ => rfl) (fun r1 r2 => r1.append r2)
  have kb_UnknownTask_init_name : ∃ g, KBn K fd_UnknownTask_init ["self", "name"] 1 ["name"] g (fun vs zs => vs ++ zs) := by
    exact kbE (ps := ["self", "name"]) (ks := ["name"]) F_UnknownTask_init (fun vs zs => vs ++ zs) (fun kV doc pm an cdv ct us ws hu hw => match us, hu, ws, hw with | [_], _, [_], _ => rfl) (fun r1 r2 => r1.append r2)
  have kb_BadPlace_init_place : ∃ g, KBn K fd_BadPlace_init ["self", "place"] 1 ["place"] g (fun vs zs => vs ++ zs) := by
    exact kbE (ps := ["self", "place"]) (ks := ["place"]) F_BadPlace_init (fun vs zs => vs ++ zs) (fun kV doc pm an cdv ct us ws hu hw => match us, hu, ws, hw with | [_], _, [_], _ => rfl) (fun r1 r2 => r1.append r2)
  have kb_BadEvent_init_index : ∃ g, KBn K fd_BadEvent_init ["self", "index"] 1 ["index"] g (fun vs zs => vs ++ zs) := by
    exact kbE (ps := ["self", "index"]) (ks := ["index"]) F_BadEvent_init (fun vs zs => vs ++ zs) (fun kV doc pm an cdv ct us ws hu hw => match us, hu, ws, hw with | [_], _, [_], _ => rfl) (fun r1 r2 => r1.append r2)
  have kb_BadShift_init_shift : ∃ g, KBn K fd_BadShift_init ["self", "shift"] 1 ["shift"] g (fun vs zs => vs ++ zs) := by
    exact kbE (ps := ["self", "shift"]) (ks := ["shift"]) F_BadShift_init (fun vs zs => vs ++ zs) (fun kV doc pm an cdv ct us ws hu hw => match us, hu, ws, hw with | [_], _, [_], _ => rfl) (fun r1 r2 => r1.append r2)
  have kb_BadWeights_init_index : ∃ g, KBn K fd_BadWeights_init ["self", "index"] 1 ["index"] g (fun vs zs => vs ++ zs) := by
    exact kbE (ps := ["self", "index"]) (ks := ["index"]) F_BadWeights_init (fun vs zs => vs ++ zs) (fun kV doc pm an cdv ct us ws hu hw => match us, hu, ws, hw with | [_], _, [_], _ => rfl) (fun r1 r2 => r1.append r2)
  have kb_BadWord_init_word : ∃ g, KBn K fd_BadWord_init ["self", "word"] 1 ["word"] g (fun vs zs => vs ++ zs) := by
    exact kbE (ps := ["self", "word"]) (ks := ["word"]) F_BadWord_init (fun vs zs => vs ++ zs) (fun kV doc pm an cdv ct us ws hu hw => match us, hu, ws, hw with | [_], _, [_], _ => rfl) (fun r1 r2 => r1.append r2)
  have kb_BadRow_init_reason_task_place : ∃ g, KBn K fd_BadRow_init ["self", "task", "place", "reason"] 1 ["reason", "task", "place"] g (fun vs zs => gRow vs zs) := by
    exact kbE (ps := ["self", "task", "place", "reason"]) (ks := ["reason", "task", "place"]) F_BadRow_init gRow (fun kV doc pm an cdv ct us ws hu hw => match us, hu, ws, hw with | [_], _, [_, _, _], _ => rfl) (fun r1 r2 => gRow_rel r1 r2)
  exact ⟨{ fd_BadPart_init := fd_BadPart_init, F_BadPart_init := F_BadPart_init, b_BadPart_init := b_BadPart_init, fd_BadText_init := fd_BadText_init, F_BadText_init := F_BadText_init, b_BadText_init := b_BadText_init, fd_BadTask_init := fd_BadTask_init, F_BadTask_init := F_BadTask_init, b_BadTask_init := b_BadTask_init, fd_BadCounter_init := fd_BadCounter_init, F_BadCounter_init := F_BadCounter_init, b_BadCounter_init := b_BadCounter_init, fd_BadLate_init := fd_BadLate_init, F_BadLate_init := F_BadLate_init, b_BadLate_init := b_BadLate_init, fd_UnknownTask_init := fd_UnknownTask_init, F_UnknownTask_init := F_UnknownTask_init, b_UnknownTask_init := b_UnknownTask_init, fd_BadPlace_init := fd_BadPlace_init, F_BadPlace_init := F_BadPlace_init, b_BadPlace_init := b_BadPlace_init, fd_BadEvent_init := fd_BadEvent_init, F_BadEvent_init := F_BadEvent_init, b_BadEvent_init := b_BadEvent_init, fd_BadShift_init := fd_BadShift_init, F_BadShift_init := F_BadShift_init, b_BadShift_init := b_BadShift_init, fd_BadWeights_init := fd_BadWeights_init, F_BadWeights_init := F_BadWeights_init, b_BadWeights_init := b_BadWeights_init, fd_BadWord_init := fd_BadWord_init, F_BadWord_init := F_BadWord_init, b_BadWord_init := b_BadWord_init, fd_BadRow_init := fd_BadRow_init, F_BadRow_init := F_BadRow_init, b_BadRow_init := b_BadRow_init, fd_LoopError_init := fd_LoopError_init, F_LoopError_init := F_LoopError_init, b_LoopError_init := b_LoopError_init, fd_l_fresh := fd_l_fresh, F_l_fresh := F_l_fresh, b_l_fresh := b_l_fresh, fd_l_fill := fd_l_fill, F_l_fill := F_l_fill, b_l_fill := b_l_fill, fd_l_take := fd_l_take, F_l_take := F_l_take, b_l_take := b_l_take, fd_l_one := fd_l_one, F_l_one := F_l_one, b_l_one := b_l_one, fd_l_same := fd_l_same, F_l_same := F_l_same, b_l_same := b_l_same, fd_l_any := fd_l_any, F_l_any := F_l_any, b_l_any := b_l_any, fd_l_with_one := fd_l_with_one, F_l_with_one := F_l_with_one, b_l_with_one := b_l_with_one, fd_l_by_place := fd_l_by_place, F_l_by_place := F_l_by_place, b_l_by_place := b_l_by_place, fd_l_held := fd_l_held, F_l_held := F_l_held, b_l_held := b_l_held, fd_l_classes := fd_l_classes, F_l_classes := F_l_classes, b_l_classes := b_l_classes, fd_law := fd_law, F_law := F_law, b_law := b_law, g_l_fresh := He.glo_ok X G (c.fact 0 (f := .glo "_law_fresh") rfl), g_l_fill := He.glo_ok X G (c.fact 1 (f := .glo "_law_fill") rfl), g_l_take := He.glo_ok X G (c.fact 2 (f := .glo "_law_take") rfl), g_l_one := He.glo_ok X G (c.fact 3 (f := .glo "_law_one") rfl), g_l_same := He.glo_ok X G (c.fact 4 (f := .glo "_law_same") rfl), g_l_any := He.glo_ok X G (c.fact 5 (f := .glo "_law_any") rfl), g_l_with_one := He.glo_ok X G (c.fact 6 (f := .glo "_law_with_one") rfl), g_l_by_place := He.glo_ok X G (c.fact 7 (f := .glo "_law_by_place") rfl), g_l_held := He.glo_ok X G (c.fact 8 (f := .glo "_law_held") rfl), g_l_classes := He.glo_ok X G (c.fact 9 (f := .glo "_law_classes") rfl), g_law := He.glo_ok X G (c.fact 10 (f := .glo "law") rfl), n_len := He.free_ok X G (c.fact 11 (f := .free "len") rfl), n_int := He.free_ok X G (c.fact 12 (f := .free "int") rfl), n_abs := He.free_ok X G (c.fact 13 (f := .free "abs") rfl), n_range := He.free_ok X G (c.fact 14 (f := .free "range") rfl), n_enumerate := He.free_ok X G (c.fact 15 (f := .free "enumerate") rfl), n_isinstance := He.free_ok X G (c.fact 16 (f := .free "isinstance") rfl), n_all := He.free_ok X G (c.fact 17 (f := .free "all") rfl), n_any := He.free_ok X G (c.fact 18 (f := .free "any") rfl), n_zip := He.free_ok X G (c.fact 19 (f := .free "zip") rfl), n_bool := He.free_ok X G (c.fact 20 (f := .free "bool") rfl), n_list := He.free_ok X G (c.fact 21 (f := .free "list") rfl), n_tuple := He.free_ok X G (c.fact 22 (f := .free "tuple") rfl), n_str := He.free_ok X G (c.fact 23 (f := .free "str") rfl), n_ValueError := He.free_ok X G (c.fact 24 (f := .free "ValueError") rfl), g_BadPart := He.glo_ok X G (c.fact 25 (f := .glo "BadPart") rfl), a_BadPart_part := He.noat_ok (c.fact 26 (f := .noat "BadPart" "part") rfl), g_BadText := He.glo_ok X G (c.fact 27 (f := .glo "BadText") rfl), a_BadText_line := He.noat_ok (c.fact 28 (f := .noat "BadText" "line") rfl), g_BadTask := He.glo_ok X G (c.fact 29 (f := .glo "BadTask") rfl), a_BadTask_index := He.noat_ok (c.fact 30 (f := .noat "BadTask" "index") rfl), g_BadCounter := He.glo_ok X G (c.fact 31 (f := .glo "BadCounter") rfl), a_BadCounter_index := He.noat_ok (c.fact 32 (f := .noat "BadCounter" "index") rfl), g_BadLate := He.glo_ok X G (c.fact 33 (f := .glo "BadLate") rfl), a_BadLate_late := He.noat_ok (c.fact 34 (f := .noat "BadLate" "late") rfl), g_UnknownTask := He.glo_ok X G (c.fact 35 (f := .glo "UnknownTask") rfl), a_UnknownTask_name := He.noat_ok (c.fact 36 (f := .noat "UnknownTask" "name") rfl), g_BadPlace := He.glo_ok X G (c.fact 37 (f := .glo "BadPlace") rfl), a_BadPlace_place := He.noat_ok (c.fact 38 (f := .noat "BadPlace" "place") rfl), g_BadEvent := He.glo_ok X G (c.fact 39 (f := .glo "BadEvent") rfl), a_BadEvent_index := He.noat_ok (c.fact 40 (f := .noat "BadEvent" "index") rfl), g_BadShift := He.glo_ok X G (c.fact 41 (f := .glo "BadShift") rfl), a_BadShift_shift := He.noat_ok (c.fact 42 (f := .noat "BadShift" "shift") rfl), g_BadWeights := He.glo_ok X G (c.fact 43 (f := .glo "BadWeights") rfl), a_BadWeights_index := He.noat_ok (c.fact 44 (f := .noat "BadWeights" "index") rfl), g_BadWord := He.glo_ok X G (c.fact 45 (f := .glo "BadWord") rfl), a_BadWord_word := He.noat_ok (c.fact 46 (f := .noat "BadWord" "word") rfl), g_BadRow := He.glo_ok X G (c.fact 47 (f := .glo "BadRow") rfl), a_BadRow_task := He.noat_ok (c.fact 48 (f := .noat "BadRow" "task") rfl), a_BadRow_place := He.noat_ok (c.fact 49 (f := .noat "BadRow" "place") rfl), a_BadRow_reason := He.noat_ok (c.fact 50 (f := .noat "BadRow" "reason") rfl), g_LoopError := He.glo_ok X G (c.fact 51 (f := .glo "LoopError") rfl), vV := Lt.clsVal_of (c.chk 0 rfl), g_BadWish := PySem.W.mg_of X G (He.eqO_ok (c.chk 1 rfl)), x_BadWish := Lt.exK2_of (c.chk 2 rfl), g_BadRun := PySem.W.mg_of X G (He.eqO_ok (c.chk 3 rfl)), x_BadRun := Lt.exK2_of (c.chk 4 rfl), kitM := Lt.all2_of (c.chk 5 rfl), kitV := Lt.all1_of (c.chk 6 rfl), exC := Lt.allC_of (c.chk 7 rfl), x_BadPart := Lt.exK_of (c.chk 8 rfl), x_BadText := Lt.exK_of (c.chk 9 rfl), x_BadTask := Lt.exK_of (c.chk 10 rfl), x_BadCounter := Lt.exK_of (c.chk 11 rfl), x_BadLate := Lt.exK_of (c.chk 12 rfl), x_UnknownTask := Lt.exK_of (c.chk 13 rfl), x_BadPlace := Lt.exK_of (c.chk 14 rfl), x_BadEvent := Lt.exK_of (c.chk 15 rfl), x_BadShift := Lt.exK_of (c.chk 16 rfl), x_BadWeights := Lt.exK_of (c.chk 17 rfl), x_BadWord := Lt.exK_of (c.chk 18 rfl), x_BadRow := Lt.exK_of (c.chk 19 rfl), x_LoopError := Lt.exK_of (c.chk 20 rfl), kb_BadPart_init_part := kb_BadPart_init_part, kb_BadText_init_line := kb_BadText_init_line, kb_BadTask_init_index := kb_BadTask_init_index, kb_BadCounter_init_index := kb_BadCounter_init_index, kb_BadLate_init_late := kb_BadLate_init_late, kb_UnknownTask_init_name := kb_UnknownTask_init_name, kb_BadPlace_init_place := kb_BadPlace_init_place, kb_BadEvent_init_index := kb_BadEvent_init_index, kb_BadShift_init_shift := kb_BadShift_init_shift, kb_BadWeights_init_index := kb_BadWeights_init_index, kb_BadWord_init_word := kb_BadWord_init_word, kb_BadRow_init_reason_task_place := kb_BadRow_init_reason_task_place }⟩
section
local macro_rules | `(tactic| walk_at "subl") => `(tactic| first | with_reducible exact List.nil_sublist _ | with_reducible exact List.Sublist.refl _ | (with_reducible refine List.Sublist.cons₂ _ ?_; walk_at "subl") | (with_reducible refine List.Sublist.cons _ ?_; walk_at "subl"))
local macro_rules | `(tactic| walk_at "k") => `(tactic| try dsimp only [L2.cxOf, L2.Cx.nox, L2.Cx.wish, L2.Cx.blk])
local macro_rules | `(tactic| walk_at "ask") => `(tactic| fail)
local macro_rules | `(tactic| walk_at "mem") => `(tactic| first | with_reducible exact List.mem_cons_self | (with_reducible apply List.mem_cons_of_mem; walk_at "mem"))
local macro_rules | `(tactic| walk_at "put") => `(tactic| first | with_reducible exact Lt.Put.head | (with_reducible apply Lt.Put.tail; walk_at "put"))
local macro_rules | `(tactic| walk_at "own") => `(tactic| first | exact Or.inr (by assumption) | exact Or.inl (by walk_at "mem"))
local macro_rules | `(tactic| walk_at "cnd") => `(tactic| first | assumption | decide | ((try dsimp only); omega) | (unfold CMul; omega) | (unfold CDiv; omega) | (unfold CPow; omega) | exact Or.inr (by decide) | exact Or.inl (by decide) | exact wide_div (b := 128) (by omega) (by omega) (by decide) (by decide))
local macro_rules | `(tactic| walk_at "at") => `(tactic| first | exact rfl | assumption)
local macro_rules | `(tactic| walk_at "kit") => `(tactic| first | assumption | exact kit_int_int | exact kit_int_bool | exact kit_int_str | exact kit_int_list | exact kit_int_tuple | exact kit_int_dict | exact kit_bool_int | exact kit_bool_bool | exact kit_bool_str | exact kit_bool_list | exact kit_bool_tuple | exact kit_bool_dict | exact kit_str_int | exact kit_str_bool | exact kit_str_str | exact kit_str_list | exact kit_str_tuple | exact kit_str_dict | exact kit_list_int | exact kit_list_bool | exact kit_list_str | exact kit_list_list | exact kit_list_tuple | exact kit_list_dict | exact kit_tuple_int | exact kit_tuple_bool | exact kit_tuple_str | exact kit_tuple_list | exact kit_tuple_tuple | exact kit_tuple_dict | exact kit_dict_int | exact kit_dict_bool | exact kit_dict_str | exact kit_dict_list | exact kit_dict_tuple | exact kit_dict_dict | exact kit_NoneType_int | exact kit_NoneType_bool | exact kit_NoneType_str | exact kit_NoneType_list | exact kit_NoneType_tuple | exact kit_NoneType_dict)
local macro_rules | `(tactic| walk_at "kitA") => `(tactic| first | assumption | exact kitA_lt_int | exact kitA_lt_bool | exact kitA_lt_str | exact kitA_lt_list | exact kitA_lt_tuple | exact kitA_lt_dict | exact kitA_lt_NoneType | exact kitA_bilt_int | exact kitA_bilt_bool | exact kitA_bilt_str | exact kitA_bilt_list | exact kitA_bilt_tuple | exact kitA_bilt_dict | exact kitA_bilt_NoneType)
local macro_rules | `(tactic| walk_at "ty") => `(tactic| first | exact .base (.int _) | exact .base (.bl _) | exact .base (.str _) | exact .base .non | exact .base (.lst (Stt.get (by assumption) (by walk_at "mem"))) | exact .base (.tup (Stt.get (by assumption) (by walk_at "mem"))) | exact .base (.dK (Stt.get (by assumption) (by walk_at "mem"))) | exact sqL_ty (Stt.upL (by assumption) (by assumption)) | exact sqT_ty (Stt.upT (by assumption) (by assumption)) | exact InsT.ty (by assumption) (Stt.get (by assumption) (by walk_at "mem")) | assumption)
local macro_rules | `(tactic| walk_at "rd1") => `(tactic| first
  | with_reducible refine' Rd.seq ?_
  | with_reducible refine' Rd.asg ?_
  | ((with_reducible refine' Rd.var ?vh ?_); (case vh => exact rfl))
  | with_reducible refine' Rd.con ?_
  | with_reducible refine' Rd.op ?_
  | with_reducible refine' Rd.i0 ?_
  | ((with_reducible refine' Rd.ic ?vh ?_); (case vh => walk_at "cnd"))
  | ((with_reducible refine' Rd.ixL ?v1 ?v2 ?v3 ?_); (case v1 => assumption); (case v2 => walk_at "mem"); (case v3 => walk_at "at"))
  | ((with_reducible refine' Rd.ixT ?v1 ?v2 ?v3 ?_); (case v1 => assumption); (case v2 => walk_at "mem"); (case v3 => walk_at "at"))
  | ((with_reducible refine' Rd.ixD2 ?v1 ?v2 ?_); (case v1 => assumption); (case v2 => walk_at "mem"); intro _)
  | ((with_reducible refine' Rd.ixD3 ?v1 ?v2 ?_); (case v1 => assumption); (case v2 => walk_at "mem"); intro _)
  | ((with_reducible refine' Rd.setD2 ?v1 ?v2 ?v3 ?v4 ?_); (case v1 => assumption); (case v2 => walk_at "mem"); (case v3 => walk_at "put"); (case v4 => walk_at "own"); intro _ _)
  | ((with_reducible refine' Rd.isi ?v1 ?v2 ?v3 ?_); (case v1 => walk_at "ty"); (case v2 => first | exact ClsV.ty _ | exact ClsV.own _); (case v3 => walk_at "kit"))
  | with_reducible refine' Rd.fld ?_
  | ((with_reducible refine' Rd.fldI ?v1 ?v2 ?v3 ?v4 ?v5 ?_); (case v1 => assumption); (case v2 => walk_at "mem"); (case v3 => assumption); (case v4 => assumption); (case v5 => walk_at "at"))
  | with_reducible refine' Rd.sfld ?_
  | ((with_reducible refine' Rd.sfldI ?v1 ?v2 ?v3 ?v4 ?v5 ?v6 ?v7 ?_); (case v1 => assumption); (case v2 => walk_at "mem"); (case v3 => assumption); (case v4 => assumption); (case v5 => first | decide | (refine Nat.lt_of_le_of_lt (putF_len _ _ _) ?_; decide)); (case v6 => walk_at "put"); (case v7 => walk_at "own"); intro _ _)
  | with_reducible refine' Rd.make ?_
  | with_reducible refine' Rd.gcd ?_
  | with_reducible refine' Rd.cons ?_
  | with_reducible refine' Rd.nil ?_
  | with_reducible refine' Rd.cb ?_
  | with_reducible refine' Rd.intI ?_
  | with_reducible refine' Rd.absI ?_
  | ((with_reducible refine' Rd.lenL ?v1 ?v2 ?_); (case v1 => assumption); (case v2 => walk_at "mem"))
  | ((with_reducible refine' Rd.lenT ?v1 ?v2 ?_); (case v1 => assumption); (case v2 => walk_at "mem"))
  | ((with_reducible refine' Rd.lenBL ?v1 ?v2 ?v3 ?_); (case v1 => assumption); (case v2 => assumption); (case v3 => first | exact List.not_mem_nil | assumption))
  | ((with_reducible refine' Rd.lenBT ?v1 ?v2 ?v3 ?_); (case v1 => assumption); (case v2 => assumption); (case v3 => first | exact List.not_mem_nil | assumption))
  | ((with_reducible refine' Rd.ixBL ?v1 ?v2 ?v4 ?v3 ?_); (case v1 => assumption); (case v2 => assumption); (case v4 => first | exact List.not_mem_nil | assumption); (case v3 => walk_at "at"))
  | ((with_reducible refine' Rd.ixBT ?v1 ?v2 ?v4 ?v3 ?_); (case v1 => assumption); (case v2 => assumption); (case v4 => first | exact List.not_mem_nil | assumption); (case v3 => walk_at "at"))
  | ((with_reducible refine' Rd.brI ?vh ?_); (case vh => with_reducible exact rfl))
  | with_reducible refine' Rd.ifS ?_
  | with_reducible refine' Rd.test ?_
  | with_reducible refine' Rd.tbl ?_
  | with_reducible refine' Rd.bl ?_
  | with_reducible refine' Rd.brTT ?_
  | with_reducible refine' Rd.brFF ?_
  | with_reducible refine' Rd.brN ?_
  | ((with_reducible refine' Rd.aug ?vh ?_); (case vh => exact rfl))
  | with_reducible refine' Rd.ipI ?_
  | with_reducible refine' Rd.blV ?_
  | with_reducible refine' Rd.notVL ?_
  | with_reducible refine' Rd.andT ?_
  | with_reducible refine' Rd.orT ?_
  | with_reducible refine' Rd.notT ?_
  | with_reducible refine' Rd.andV ?_
  | with_reducible refine' Rd.orV ?_
  | with_reducible refine' Rd.notV ?_
  | with_reducible refine' Rd.ifE ?_
  | ((with_reducible refine' Rd.eqS ?vh ?_); (case vh => exact rfl))
  | ((with_reducible refine' Rd.neS ?vh ?_); (case vh => exact rfl))
  | with_reducible refine' Rd.par ?_
  | with_reducible refine' Rd.parL ?_
  | with_reducible refine' Rd.un ?_
  | with_reducible refine' Rd.u1 ?_
  | with_reducible refine' Rd.sub ?_
  | ((with_reducible refine' Rd.setL ?v1 ?v2 ?v3 ?v4 ?v5 ?_); (case v1 => assumption); (case v2 => walk_at "mem"); (case v3 => walk_at "at"); (case v4 => walk_at "put"); (case v5 => walk_at "own"); intro _ _)
  | with_reducible refine' Rd.tup ?_
  | with_reducible refine' Rd.lst ?_
  | ((with_reducible refine' Rd.tupN ?v1 ?v2 ?_); (case v1 => assumption); (case v2 => simp only [List.length_cons, List.length_nil]; decide); intro _ _ _ _)
  | ((with_reducible refine' Rd.lstN ?v1 ?v2 ?_); (case v1 => assumption); (case v2 => simp only [List.length_cons, List.length_nil]; decide); intro _ _ _ _)
  | with_reducible refine' Rd.ret ?_
  | with_reducible refine' Rd.drop ?_
  | with_reducible refine' Rd.retN ?_
  | with_reducible refine' Rd.next ?_
  | with_reducible refine' Rd.brk ?_
  | with_reducible refine' Rd.cont ?_
  | with_reducible refine' Rd.call ?_
  | walk_at "ask"
  | with_reducible refine' Rd.bm ?_
  | ((with_reducible refine' Rd.bmL ?v1 ?v2 ?_); (case v1 => assumption); (case v2 => walk_at "mem"))
  | ((with_reducible refine' Rd.app ?v1 ?v2 ?v3 ?v4 ?v5 ?_); (case v1 => assumption); (case v2 => walk_at "mem"); (case v3 => simp only [List.length_cons, List.length_nil, List.length_append]; omega); (case v4 => walk_at "put"); (case v5 => walk_at "own"); intro _ _)
  | with_reducible refine' Rd.asgT ?_
  | ((with_reducible refine' Rd.gtup ?v1 ?v2 ?v3 ?_); (case v1 => assumption); (case v2 => walk_at "mem"); (case v3 => exact rfl))
  | with_reducible refine' Rd.gcons ?_
  | with_reducible refine' Rd.gname ?_
  | with_reducible refine' Rd.gnil ?_
  | with_reducible refine' Rd.sl ?_
  | with_reducible refine' Rd.noPart ?_
  | with_reducible refine' Rd.part ?_
  | with_reducible refine' Rd.prt ?_
  | with_reducible refine' Rd.isB ?_
  | ((with_reducible refine' Rd.wp ?vh ?_); (case vh => exact rfl))
  | with_reducible refine' Rd.makeK ?_
  | with_reducible refine' Rd.meth ?_
  | ((with_reducible refine' Rd.catL ?v1 ?v2 ?v3 ?v4 ?_); (case v1 => assumption); (case v2 => walk_at "mem"); (case v3 => walk_at "mem"); (case v4 => simp only [List.length_cons, List.length_nil, List.length_append]; omega); intro _ _ _ _)
  | with_reducible refine' Rd.dnew ?_
  | ((with_reducible refine' Rd.dnewL ?v1 ?_); (case v1 => assumption); intro _ _ _ _)
  | with_reducible refine' Rd.lc ?_
  | with_reducible refine' Rd.wZ ?_
  | with_reducible refine' Rd.tYesH ?_
  | with_reducible refine' Rd.fmt ?_
  | with_reducible refine' Rd.joined ?_
  | with_reducible refine' Rd.jsNil ?_
  | with_reducible refine' Rd.jsCons ?_
  | ((with_reducible refine' Rd.isiT ?v1 ?v2 ?v3 ?v4 ?v5 ?_); (case v1 => assumption); (case v2 => walk_at "mem"); (case v3 => walk_at "ty"); (case v4 => first | exact .cons (.ty _) (.cons (.ty _) .nil) | exact .cons (.ty _) (.cons (.ty _) (.cons (.ty _) (.cons (.ty _) .nil))) | exact .cons (.ty _) (.cons (.ty _) (.cons (.ty _) .nil))); (case v5 => walk_at "kitA"))
  | with_reducible refine' Rd.forS ?_
  | with_reducible refine' Rd.wEnT ?_
  | ((with_reducible refine' Rd.wEnTL ?v1 ?v2 ?_); (case v1 => assumption); (case v2 => walk_at "mem"))
  | with_reducible refine' Rd.wL ?_
  | ((with_reducible refine' Rd.wLL ?v1 ?v2 ?_); (case v1 => assumption); (case v2 => walk_at "mem"))
  | with_reducible refine' Rd.wT ?_
  | ((with_reducible refine' Rd.wTL ?v1 ?v2 ?_); (case v1 => assumption); (case v2 => walk_at "mem"))
  | with_reducible refine' Rd.wR1 ?_
  | ((with_reducible refine' Rd.wR1L ?v1 ?v2 ?_); (case v1 => omega); (case v2 => omega))
  | with_reducible refine' Rd.wR2 ?_
  | ((with_reducible refine' Rd.wR2L ?v1 ?_); (case v1 => omega)))
local macro_rules | `(tactic| walk_at "rd") => `(tactic| repeat (walk_at "rd1"))

section
variable {P : Program} {w : World} {K : PySem.W.Frag} {mg : Str → Option Value} {base : Heap}
/-! ### the draws -/
def spFresh (K : PySem.W.Frag) : Sp := fun vs H Q _ => ∃ (a : Addr) (ns : List Int), vs = [.ref a] ∧ SqL K H a (ns.map V.int) ∧ ns.length ≤ 63 ∧ ∀ st c ms H', H st = none → Stt H [] (dled st c ms) H' → ms.length ≤ 63 → Q (.ref st) H'
theorem ok_l_fresh (T : Txt K mg) : FnOk P w K mg base CX0 1 (He.fAd K ("_law_fresh", none)) T.fd_l_fresh ["_law_script"] (spFresh K) := by
  refine T.F_l_fresh.ok sc_l_fresh (fun vs H Q E h => ?_) (fun cdv A outer s H vs Q E hr h => ?_)
  · obtain ⟨a, ns, rfl, _⟩ := h
    rfl
  · obtain ⟨a, ns, rfl, hS, hl, k⟩ := h
    refine ⟨_, PSs.nox (pss_one (ps_ret (pe_lst (pa_cons (pe_slice sl_list (pv 0) po_none (po_some pe_int)) (pa_cons pe_int (pa_cons pe_int (pa_cons pe_bl pa_nil))))))), ?_⟩
    walk_at "k"
    have s0 : Stt H [] [] H := Stt.nil
    walk_at "rd"
    refine ⟨a, _, rfl, hS, fun p hp => ?_⟩
    have ec : cutV (ns.map V.int) none (some 63) = (ns.take 63).map V.int := by
      unfold cutV
      simp [HT.sIx]
    rw [ec]
    have s1 := s0.new hp (.lst ((ns.take 63).map V.int))
    generalize upd H p (HO.lst ((ns.take 63).map V.int)) = H1 at s1 ⊢
    walk_at "rd"
    refine k _ p (ns.take 63) _ (by assumption) (Stt.re (f := DrS p) (by assumption) .head ⟨_, Stt.get (by assumption) (by walk_at "mem"), 0, 0, false, rfl⟩) ?_
    rw [List.length_take]
    omega
def spFill : Sp := fun vs H Q _ => ∃ (st c : Addr) (ns : List Int), vs = [.ref st] ∧ Stt H [st] (dled st c ns) H ∧ ns.length ≤ 63 ∧ ∀ H', Stt H [st] (dled st c ns) H' → Q .non H'
theorem ok_l_fill (T : Txt K mg) : FnOk P w K mg base CX0 1 (He.fAd K ("_law_fill", none)) T.fd_l_fill ["_law_state"] spFill := by
  refine T.F_l_fill.ok sc_l_fill (fun vs H Q E h => ?_) (fun cdv A outer s H vs Q E hr h => ?_)
  · obtain ⟨st, c, ns, rfl, _⟩ := h
    rfl
  · obtain ⟨st, c, ns, rfl, s0, hl, k⟩ := h
    refine ⟨_, PSs.nox (pss_cons (ps_par (i := 1) (j := 2) (by rfl) sc_l_fill.nd rfl rfl (by decide) rfl rfl (pa_cons (pe_ix ix_list (pv 0) pe_int (fun _ _ => rfl)) (pa_cons (pe_ix ix_list (pv 0) pe_int (fun _ _ => rfl)) pa_nil)) (by rfl))
  (pss_cons (ps_asg (pe_op op_add (pe_op op_mul pe_int (pv 2)) pe_int) (pg_name (i := 3) sc_l_fill.nd rfl (by first | exact Or.inl rfl | exact Or.inr rfl)))
  (C8.pss_cut (ps_if (pt_cmpR op_gt (pe_callB call_lenQ (by rfl) T.n_len PySem.boot_len (pa_cons (pv 1) pa_nil)) pe_int (nomark _)) (pss_one (ps_asg (pe_op op_add (pe_op op_mul pe_int (pe_op op_fdiv (pv 2) (pe_callB call_lenQ (by rfl) T.n_len PySem.boot_len (pa_cons (pv 1) pa_nil)))) (pe_ix ix_list (pv 1) (pe_op op_mod (pe_callTy call_intQ (by rfl) T.n_int (by decide +kernel) (pa_cons (pv 2) pa_nil)) (pe_callB call_lenQ (by rfl) T.n_len PySem.boot_len (pa_cons (pv 1) pa_nil))) (fun _ _ => rfl))) (pg_name (i := 3) sc_l_fill.nd rfl (by first | exact Or.inl rfl | exact Or.inr rfl))))
   pss_nil)
  (pss_cons (ps_asg (pe_op op_add (pv 2) pe_int) (pg_sub (pv 0) pe_int set_list))
  (C8.pss_cut (ps_asg (pe_or (pe_cmpR op_ge (pv 2) (pe_callB call_lenQ (by rfl) T.n_len PySem.boot_len (pa_cons (pv 1) pa_nil)) (nomark _)) (pe_one (pe_cmpR op_lt (pv 3) (pe_op op_pow pe_int pe_int) (nomark _)))) (pg_sub (pv 0) pe_int set_list))
  (pss_cons (ps_asg (pe_op op_sub (pv 3) (pe_op op_pow pe_int pe_int)) (pg_sub (pv 0) pe_int set_list))
  (pss_one (ps_if (pt_val (pe_ix ix_list (pv 0) pe_int (fun _ _ => rfl))) (pss_cons (ps_asg pe_int (pg_sub (pv 0) pe_int set_list))
  (pss_one (ps_for PassesOwn.never rfl (pi_enumT (by rfl) T.n_enumerate (pa_cons (pe_tup (pa_cons pe_int (pa_cons pe_int (pa_cons pe_int (pa_cons pe_int (pa_cons pe_int pa_nil)))))) pa_nil)) (pg_tup (by rfl) (pgs_cons (pg_name (i := 4) sc_l_fill.nd rfl (by first | exact Or.inl rfl | exact Or.inr rfl)) (pgs_cons (pg_name (i := 5) sc_l_fill.nd rfl (by first | exact Or.inl rfl | exact Or.inr rfl)) pgs_nil)))
   (pss_cons (ps_asg (pe_op op_mod (pe_callTy call_intQ (by rfl) T.n_int (by decide +kernel) (pa_cons (pe_op op_mul (pe_op op_add (pe_op op_add (pv 3) (pe_op op_mul (pe_op op_mul pe_int (pv 4)) (pv 4))) (pe_op op_mul pe_int (pv 4))) (pe_op op_add pe_int (pe_op op_mul pe_int (pv 4)))) pa_nil)) (pv 5)) (pg_name (i := 6) sc_l_fill.nd rfl (by first | exact Or.inl rfl | exact Or.inr rfl)))
  (pss_one (ps_asg (pe_op op_add (pe_op op_mul (pe_ix ix_list (pv 0) pe_int (fun _ _ => rfl)) (pv 5)) (pe_op op_mod (pe_callTy call_intQ (by rfl) T.n_int (by decide +kernel) (pa_cons (pe_op op_pow (pv 6) pe_int) pa_nil)) (pv 5))) (pg_sub (pv 0) pe_int set_list)))))))
   pss_nil)))))))), ?_⟩
    walk_at "k"
    obtain ⟨o, h1, nth, val, fl, rfl⟩ := s0.pick (a := st) (f := DrS c) (by walk_at "mem")
    have s1 : Stt H [st] [(st, Is (.lst [.ref c, .int nth, .int val, .bl fl])), (c, Is (.lst (ns.map V.int)))] H := s0.re .head ⟨_, h1, rfl⟩
    have fin : ∀ (H' : Hp) (a b : Int) (d : Bool), Stt H [st] [(st, Is (.lst [.ref c, .int a, .int b, .bl d])), (c, Is (.lst (ns.map V.int)))] H' → Q .non H' := fun H' a b d q2 =>
      k H' (q2.re .head ⟨_, q2.get (by walk_at "mem"), a, b, d, rfl⟩)
    have hlen : (((ns.map V.int).length : Nat) : Int) = (ns.length : Int) := by rw [List.length_map]
    walk_at "rd"
    refine Rd.cut (fun σ' H' => H = H' ∧ ∃ z : Int, σ' = [some (.ref st), some (.ref c), some (.int nth), some (.int z), none, none, none]) ?_ ?_
    · walk_at "rd"
      refine Rd.brD (fun c1 => ?_) (fun c1 => ?_)
      · have hp : (0 : Int) < (((ns.map V.int).length : Nat) : Int) := c1
        obtain ⟨z, hz⟩ : ∃ z, atI (ns.map V.int) (nth % (((ns.map V.int).length : Nat) : Int)) = some (V.int z) := by
          have b0 := Int.emod_nonneg nth (Int.ne_of_gt hp)
          have b1 := Int.emod_lt_of_pos nth hp
          obtain ⟨j, hj⟩ := Int.eq_ofNat_of_zero_le b0
          have hj2 : j < ns.length := by omega
          refine ⟨ns[j], ?_⟩
          rw [hj]
          exact atI_nat (by simp [hj2])
        walk_at "rd"
        exact ⟨rfl, _, rfl⟩
      · walk_at "rd"
        exact ⟨rfl, _, rfl⟩
    · rintro σ' H' ⟨rfl, z, rfl⟩
      walk_at "rd"
      refine Rd.cut (fun σ' H' => ∃ d : Bool, σ' = [some (.ref st), some (.ref c), some (.int nth), some (.int z), none, none, none] ∧ Stt H [st] [(st, Is (.lst [.ref c, .int (nth + 1), .int val, .bl d])), (c, Is (.lst (ns.map V.int)))] H') ?_ ?_
      · walk_at "rd"
        refine Rd.brD (fun c1 => ?_) (fun c1 => ?_)
        · walk_at "rd"
          exact ⟨_, rfl, by assumption⟩
        · walk_at "rd"
          exact ⟨_, rfl, by assumption⟩
      · rintro σ' H' ⟨d, rfl, s3⟩
        walk_at "rd"
        refine Rd.br (fun c1 => ?_) (fun c1 => ?_)
        · walk_at "rd"
          have hpr : ∀ x ∈ ([.int 2147483647, .int 2147483629, .int 2147483587, .int 2147483579, .int 2147483563] : List V), ∃ z : Int, x = .int z ∧ 0 < z ∧ z < 2147483648 := by
            intro x hx
            simp only [List.mem_cons, List.not_mem_nil, or_false] at hx
            rcases hx with rfl | rfl | rfl | rfl | rfl <;> exact ⟨_, rfl, by decide, by decide⟩
          rename_i p _ _ _
          refine Rd.loop (walk_enumT (xs := [.int 2147483647, .int 2147483629, .int 2147483587, .int 2147483579, .int 2147483563])) (fun i σ H' => ∃ (v4 v5 v6 : Option V) (b : Int), σ = [some (.ref st), some (.ref c), some (.int nth), some (.int z), v4, v5, v6] ∧
            Stt H [st] [(p, Is (.tup [.int 2147483647, .int 2147483629, .int 2147483587, .int 2147483579, .int 2147483563])), (st, Is (.lst [.ref c, .int (nth + 1), .int b, .bl d])), (c, Is (.lst (ns.map V.int)))] H') ⟨_, _, _, _, rfl, by assumption⟩ (fun i σ H' _ hP => ?_) ?_ ?_
          · obtain ⟨_, _, _, _, _, s4⟩ := hP
            exact s4.sqT (by walk_at "mem")
          · rintro i x σ H' H2 hi ⟨v4, v5, v6, b, rfl, s4⟩ ⟨p, x1, x2, rfl, hp, rfl, e1, e2⟩
            cases e1
            obtain ⟨pr, rfl, hp1, hp2⟩ := hpr x2 (List.mem_of_getElem? e2)
            have hi5 : i < 5 := hi
            have s5 := s4.new hp (.tup [.int (i : Int), .int pr])
            have b2 := Int.emod_nonneg ((z + 10007 * (i : Int) * (i : Int) + 101 * (i : Int)) * (48271 + 2 * (i : Int))) (show pr ≠ 0 by omega)
            have b3 := Int.emod_lt_of_pos ((z + 10007 * (i : Int) * (i : Int) + 101 * (i : Int)) * (48271 + 2 * (i : Int))) hp1
            walk_at "rd"
            exact ⟨_, _, _, _, rfl, Stt.sub (by assumption) (List.Sublist.cons _ (List.Sublist.refl _))⟩
          · rintro σ H' ⟨v4, v5, v6, b, rfl, s4⟩
            walk_at "rd"
            exact fin _ _ _ _ (s4.sub (List.Sublist.cons _ (List.Sublist.refl _)))
        · walk_at "rd"
          exact fin _ _ _ _ (by assumption)
/-- a call of a draw asks -/
def spTake : Sp := fun vs H Q _ => ∃ (st c : Addr) (ns : List Int) (m : Int), vs = [.ref st, .int m] ∧ Stt H [st] (dled st c ns) H ∧ ns.length ≤ 63 ∧ 0 < m ∧ m < 2 ^ 100 ∧ ∀ d H', 0 ≤ d → d < m → Stt H [st] (dled st c ns) H' → Q (.int d) H'
theorem fill_ask {H0 H : Hp} {S : List Addr} {l : Led} {st c : Addr} {ns : List Int} {Q : VK} {E : XK} (s : Stt H0 S l H) (m1 : (st, DrS c) ∈ l) (m2 : (c, Is (.lst (ns.map V.int))) ∈ l) (hn : ns.length ≤ 63) (hs : st ∈ S ∨ H0 st = none) (k : ∀ H', Stt H0 S l H' → Q .non H') : spFill ([.ref st] ++ []) H Q E :=
  ⟨st, c, ns, rfl, s.drawn m1 m2, hn, fun H' q => k H' (s.after1 m1 q.keep hs (q.pick (by walk_at "mem")))⟩
local macro_rules | `(tactic| walk_at "ask") => `(tactic| ((with_reducible refine' fill_ask ?v1 ?v2 ?v3 ?v4 ?v5 ?_); (case v1 => assumption); (case v2 => walk_at "mem"); (case v3 => walk_at "mem"); (case v4 => assumption); (case v5 => walk_at "own"); intro _ _))
theorem ok_l_take (T : Txt K mg) : FnOk P w K mg base CX0 2 (He.fAd K ("_law_take", none)) T.fd_l_take ["_law_state", "_law_many"] spTake := by
  refine T.F_l_take.ok sc_l_take (fun vs H Q E h => ?_) (fun cdv A outer s H vs Q E hr h => ?_)
  · obtain ⟨st, c, ns, m, rfl, _⟩ := h
    rfl
  · obtain ⟨st, c, ns, m, rfl, s0, hl, h0, h1, k⟩ := h
    refine ⟨_, PSs.nox (pss_cons (ps_asg pe_int (pg_name (i := 2) sc_l_take.nd rfl (by first | exact Or.inl rfl | exact Or.inr rfl)))
  (pss_cons (ps_while PassesOwn.never (PW.pt (pw_and (pt_cmpR op_lt (pv 2) pe_int (nomark _)) (pw_and1 (PW.pt (pw_or (pt_cmpR op_eq (pe_ix ix_list (pv 0) pe_int (fun _ _ => rfl)) pe_int (nomark _)) (pw_or1 (PW.pt (pw_and (pt_val (pe_ix ix_list (pv 0) pe_int (fun _ _ => rfl))) (pw_and1 (pt_cmpR op_lt (pe_ix ix_list (pv 0) pe_int (fun _ _ => rfl)) (pe_op op_mul (pv 1) pe_int) (nomark _))))))))))) (pss_cons (ps_expr (pe_call (ok_l_fill T) (hr.mono (by decide)) rfl T.g_l_fill T.F_l_fill.kp T.b_l_fill .nil pass0 (pa_cons (pv 0) pa_nil)))
  (pss_cons (ps_aug (i := 2) sc_l_take.nd rfl (by first | exact Or.inl rfl | exact Or.inr rfl) pe_int ip_add)
  (pss_one (ps_if (PW.pt (pw_and (pt_val (pe_ix ix_list (pv 0) pe_int (fun _ _ => rfl))) (pw_and1 (pt_cmpR op_lt (pe_ix ix_list (pv 0) pe_int (fun _ _ => rfl)) (pe_op op_mul (pv 1) pe_int) (nomark _))))) (pss_one (ps_asg (pe_op op_add (pe_ix ix_list (pv 0) pe_int (fun _ _ => rfl)) (pe_op op_mul (pe_op op_mul (pv 1) pe_int) (pe_op op_add pe_int (pe_op op_mod (pe_callTy call_intQ (by rfl) T.n_int (by decide +kernel) (pa_cons (pe_ix ix_list (pv 0) pe_int (fun _ _ => rfl)) pa_nil)) pe_int)))) (pg_sub (pv 0) pe_int set_list)))
   pss_nil)))))
  (pss_cons (ps_asg (pe_op op_mod (pe_callTy call_intQ (by rfl) T.n_int (by decide +kernel) (pa_cons (pe_ix ix_list (pv 0) pe_int (fun _ _ => rfl)) pa_nil)) (pv 1)) (pg_name (i := 3) sc_l_take.nd rfl (by first | exact Or.inl rfl | exact Or.inr rfl)))
  (pss_cons (ps_asg (pe_op op_fdivW (pe_ix ix_list (pv 0) pe_int (fun _ _ => rfl)) (pv 1)) (pg_sub (pv 0) pe_int set_list))
  (pss_one (ps_ret (pv 3))))))), ?_⟩
    walk_at "k"
    walk_at "rd"
    refine Rd.whileS (fun n σ' H' => ∃ (z : Int), σ' = [some (.ref st), some (.int m), some (.int z), none] ∧ 0 ≤ z ∧ n = (64 - z).toNat ∧ Stt H [st] (dled st c ns) H') 64 ⟨0, rfl, by decide, rfl, s0⟩ ?_
    rintro n σ' H' ⟨z, rfl, hz, rfl, s1⟩
    have body : ∀ H2, z < 64 → Stt H [st] (dled st c ns) H2 → ∃ N : L2.St → Hp → Prop, (∀ σ' H', N σ' H' → ∃ m', m' < (64 - z).toNat ∧ ∃ (z : Int), σ' = [some (.ref st), some (.int m), some (.int z), none] ∧ 0 ≤ z ∧ m' = (64 - z).toNat ∧ Stt H [st] (dled st c ns) H') ∧
        ∀ H2, Stt H [st] (dled st c ns) H2 → N [some (.ref st), some (.int m), some (.int (z + 1)), none] H2 := fun H2 hz2 _ =>
      ⟨fun σ' H' => σ' = [some (.ref st), some (.int m), some (.int (z + 1)), none] ∧ Stt H [st] (dled st c ns) H', fun σ' H' h => ⟨_, by omega, z + 1, h.1, by omega, rfl, h.2⟩, fun H2 s2 => ⟨rfl, s2⟩⟩
    have fin : ∀ (v : Int) (H5 : Hp), Stt H [st] (dled st c ns) H5 → Q (.int (v % m)) H5 := fun v H5 s5 => k _ _ (Int.emod_nonneg v (show m ≠ 0 by omega)) (Int.emod_lt_of_pos v h0) s5
    walk_at "rd"
    refine Rd.brD (fun c1 => ?_) (fun c1 => ?_)
    · obtain ⟨N, n1, n2⟩ := body H' c1 s1
      walk_at "rd"
      refine Rd.brD (fun c2 => ?_) (fun c2 => ?_)
      · walk_at "rd"
        refine ⟨N, n1, ?_⟩; walk_at "rd"; refine Rd.br (fun c3 => ?_) (fun c3 => ?_) <;> subst c3 <;> walk_at "rd"; (refine Rd.brD (fun c4 => ?_) (fun c4 => ?_) <;> walk_at "rd" <;> exact n2 _ (by assumption)); exact n2 _ (by assumption)
      · walk_at "rd"
        refine Rd.br (fun c3 => ?_) (fun c3 => ?_)
        · subst c3
          walk_at "rd"
          refine Rd.brD (fun c4 => ?_) (fun c4 => ?_)
          · walk_at "rd"
            refine ⟨N, n1, ?_⟩; walk_at "rd"; refine Rd.br (fun c3 => ?_) (fun c3 => ?_) <;> subst c3 <;> walk_at "rd"; (refine Rd.brD (fun c4 => ?_) (fun c4 => ?_) <;> walk_at "rd" <;> exact n2 _ (by assumption)); exact n2 _ (by assumption)
          · walk_at "rd"
            exact fin _ _ (by assumption)
        · subst c3
          walk_at "rd"
          exact fin _ _ (by assumption)
    · walk_at "rd"
      exact fin _ _ (by assumption)
end

end
section
local macro_rules | `(tactic| walk_at "subl") => `(tactic| first | with_reducible exact List.nil_sublist _ | with_reducible exact List.Sublist.refl _ | (with_reducible refine List.Sublist.cons₂ _ ?_; walk_at "subl") | (with_reducible refine List.Sublist.cons _ ?_; walk_at "subl"))
local macro_rules | `(tactic| walk_at "k") => `(tactic| try dsimp only [L2.cxOf, L2.Cx.nox, L2.Cx.wish, L2.Cx.blk])
local macro_rules | `(tactic| walk_at "ask") => `(tactic| fail)
local macro_rules | `(tactic| walk_at "mem") => `(tactic| first | with_reducible exact List.mem_cons_self | (with_reducible apply List.mem_cons_of_mem; walk_at "mem"))
local macro_rules | `(tactic| walk_at "put") => `(tactic| first | with_reducible exact Lt.Put.head | (with_reducible apply Lt.Put.tail; walk_at "put"))
local macro_rules | `(tactic| walk_at "own") => `(tactic| first | exact Or.inr (by assumption) | exact Or.inl (by walk_at "mem"))
local macro_rules | `(tactic| walk_at "cnd") => `(tactic| first | assumption | decide | ((try dsimp only); omega) | (unfold CMul; omega) | (unfold CDiv; omega) | (unfold CPow; omega) | exact Or.inr (by decide) | exact Or.inl (by decide) | exact wide_div (b := 128) (by omega) (by omega) (by decide) (by decide))
local macro_rules | `(tactic| walk_at "at") => `(tactic| first | exact rfl | assumption)
local macro_rules | `(tactic| walk_at "kit") => `(tactic| first | assumption | exact kit_int_int | exact kit_int_bool | exact kit_int_str | exact kit_int_list | exact kit_int_tuple | exact kit_int_dict | exact kit_bool_int | exact kit_bool_bool | exact kit_bool_str | exact kit_bool_list | exact kit_bool_tuple | exact kit_bool_dict | exact kit_str_int | exact kit_str_bool | exact kit_str_str | exact kit_str_list | exact kit_str_tuple | exact kit_str_dict | exact kit_list_int | exact kit_list_bool | exact kit_list_str | exact kit_list_list | exact kit_list_tuple | exact kit_list_dict | exact kit_tuple_int | exact kit_tuple_bool | exact kit_tuple_str | exact kit_tuple_list | exact kit_tuple_tuple | exact kit_tuple_dict | exact kit_dict_int | exact kit_dict_bool | exact kit_dict_str | exact kit_dict_list | exact kit_dict_tuple | exact kit_dict_dict | exact kit_NoneType_int | exact kit_NoneType_bool | exact kit_NoneType_str | exact kit_NoneType_list | exact kit_NoneType_tuple | exact kit_NoneType_dict)
local macro_rules | `(tactic| walk_at "kitA") => `(tactic| first | assumption | exact kitA_lt_int | exact kitA_lt_bool | exact kitA_lt_str | exact kitA_lt_list | exact kitA_lt_tuple | exact kitA_lt_dict | exact kitA_lt_NoneType | exact kitA_bilt_int | exact kitA_bilt_bool | exact kitA_bilt_str | exact kitA_bilt_list | exact kitA_bilt_tuple | exact kitA_bilt_dict | exact kitA_bilt_NoneType)
local macro_rules | `(tactic| walk_at "ty") => `(tactic| first | exact .base (.int _) | exact .base (.bl _) | exact .base (.str _) | exact .base .non | exact .base (.lst (Stt.get (by assumption) (by walk_at "mem"))) | exact .base (.tup (Stt.get (by assumption) (by walk_at "mem"))) | exact .base (.dK (Stt.get (by assumption) (by walk_at "mem"))) | exact sqL_ty (Stt.upL (by assumption) (by assumption)) | exact sqT_ty (Stt.upT (by assumption) (by assumption)) | exact InsT.ty (by assumption) (Stt.get (by assumption) (by walk_at "mem")) | assumption)
local macro_rules | `(tactic| walk_at "rd1") => `(tactic| first
  | with_reducible refine' Rd.seq ?_
  | with_reducible refine' Rd.asg ?_
  | ((with_reducible refine' Rd.var ?vh ?_); (case vh => exact rfl))
  | with_reducible refine' Rd.con ?_
  | with_reducible refine' Rd.op ?_
  | with_reducible refine' Rd.i0 ?_
  | ((with_reducible refine' Rd.ic ?vh ?_); (case vh => walk_at "cnd"))
  | ((with_reducible refine' Rd.ixL ?v1 ?v2 ?v3 ?_); (case v1 => assumption); (case v2 => walk_at "mem"); (case v3 => walk_at "at"))
  | ((with_reducible refine' Rd.ixT ?v1 ?v2 ?v3 ?_); (case v1 => assumption); (case v2 => walk_at "mem"); (case v3 => walk_at "at"))
  | ((with_reducible refine' Rd.ixD2 ?v1 ?v2 ?_); (case v1 => assumption); (case v2 => walk_at "mem"); intro _)
  | ((with_reducible refine' Rd.ixD3 ?v1 ?v2 ?_); (case v1 => assumption); (case v2 => walk_at "mem"); intro _)
  | ((with_reducible refine' Rd.setD2 ?v1 ?v2 ?v3 ?v4 ?_); (case v1 => assumption); (case v2 => walk_at "mem"); (case v3 => walk_at "put"); (case v4 => walk_at "own"); intro _ _)
  | ((with_reducible refine' Rd.isi ?v1 ?v2 ?v3 ?_); (case v1 => walk_at "ty"); (case v2 => first | exact ClsV.ty _ | exact ClsV.own _); (case v3 => walk_at "kit"))
  | with_reducible refine' Rd.fld ?_
  | ((with_reducible refine' Rd.fldI ?v1 ?v2 ?v3 ?v4 ?v5 ?_); (case v1 => assumption); (case v2 => walk_at "mem"); (case v3 => assumption); (case v4 => assumption); (case v5 => walk_at "at"))
  | with_reducible refine' Rd.sfld ?_
  | ((with_reducible refine' Rd.sfldI ?v1 ?v2 ?v3 ?v4 ?v5 ?v6 ?v7 ?_); (case v1 => assumption); (case v2 => walk_at "mem"); (case v3 => assumption); (case v4 => assumption); (case v5 => first | decide | (refine Nat.lt_of_le_of_lt (putF_len _ _ _) ?_; decide)); (case v6 => walk_at "put"); (case v7 => walk_at "own"); intro _ _)
  | with_reducible refine' Rd.make ?_
  | with_reducible refine' Rd.gcd ?_
  | with_reducible refine' Rd.cons ?_
  | with_reducible refine' Rd.nil ?_
  | with_reducible refine' Rd.cb ?_
  | with_reducible refine' Rd.intI ?_
  | with_reducible refine' Rd.absI ?_
  | ((with_reducible refine' Rd.lenL ?v1 ?v2 ?_); (case v1 => assumption); (case v2 => walk_at "mem"))
  | ((with_reducible refine' Rd.lenT ?v1 ?v2 ?_); (case v1 => assumption); (case v2 => walk_at "mem"))
  | ((with_reducible refine' Rd.lenBL ?v1 ?v2 ?v3 ?_); (case v1 => assumption); (case v2 => assumption); (case v3 => first | exact List.not_mem_nil | assumption))
  | ((with_reducible refine' Rd.lenBT ?v1 ?v2 ?v3 ?_); (case v1 => assumption); (case v2 => assumption); (case v3 => first | exact List.not_mem_nil | assumption))
  | ((with_reducible refine' Rd.ixBL ?v1 ?v2 ?v4 ?v3 ?_); (case v1 => assumption); (case v2 => assumption); (case v4 => first | exact List.not_mem_nil | assumption); (case v3 => walk_at "at"))
  | ((with_reducible refine' Rd.ixBT ?v1 ?v2 ?v4 ?v3 ?_); (case v1 => assumption); (case v2 => assumption); (case v4 => first | exact List.not_mem_nil | assumption); (case v3 => walk_at "at"))
  | ((with_reducible refine' Rd.brI ?vh ?_); (case vh => with_reducible exact rfl))
  | with_reducible refine' Rd.ifS ?_
  | with_reducible refine' Rd.test ?_
  | with_reducible refine' Rd.tbl ?_
  | with_reducible refine' Rd.bl ?_
  | with_reducible refine' Rd.brTT ?_
  | with_reducible refine' Rd.brFF ?_
  | with_reducible refine' Rd.brN ?_
  | ((with_reducible refine' Rd.aug ?vh ?_); (case vh => exact rfl))
  | with_reducible refine' Rd.ipI ?_
  | with_reducible refine' Rd.blV ?_
  | with_reducible refine' Rd.notVL ?_
  | with_reducible refine' Rd.andT ?_
  | with_reducible refine' Rd.orT ?_
  | with_reducible refine' Rd.notT ?_
  | with_reducible refine' Rd.andV ?_
  | with_reducible refine' Rd.orV ?_
  | with_reducible refine' Rd.notV ?_
  | with_reducible refine' Rd.ifE ?_
  | ((with_reducible refine' Rd.eqS ?vh ?_); (case vh => exact rfl))
  | ((with_reducible refine' Rd.neS ?vh ?_); (case vh => exact rfl))
  | with_reducible refine' Rd.par ?_
  | with_reducible refine' Rd.parL ?_
  | with_reducible refine' Rd.un ?_
  | with_reducible refine' Rd.u1 ?_
  | with_reducible refine' Rd.sub ?_
  | ((with_reducible refine' Rd.setL ?v1 ?v2 ?v3 ?v4 ?v5 ?_); (case v1 => assumption); (case v2 => walk_at "mem"); (case v3 => walk_at "at"); (case v4 => walk_at "put"); (case v5 => walk_at "own"); intro _ _)
  | with_reducible refine' Rd.tup ?_
  | with_reducible refine' Rd.lst ?_
  | ((with_reducible refine' Rd.tupN ?v1 ?v2 ?_); (case v1 => assumption); (case v2 => simp only [List.length_cons, List.length_nil]; decide); intro _ _ _ _)
  | ((with_reducible refine' Rd.lstN ?v1 ?v2 ?_); (case v1 => assumption); (case v2 => simp only [List.length_cons, List.length_nil]; decide); intro _ _ _ _)
  | with_reducible refine' Rd.ret ?_
  | with_reducible refine' Rd.drop ?_
  | with_reducible refine' Rd.retN ?_
  | with_reducible refine' Rd.next ?_
  | with_reducible refine' Rd.brk ?_
  | with_reducible refine' Rd.cont ?_
  | with_reducible refine' Rd.call ?_
  | walk_at "ask"
  | with_reducible refine' Rd.bm ?_
  | ((with_reducible refine' Rd.bmL ?v1 ?v2 ?_); (case v1 => assumption); (case v2 => walk_at "mem"))
  | ((with_reducible refine' Rd.app ?v1 ?v2 ?v3 ?v4 ?v5 ?_); (case v1 => assumption); (case v2 => walk_at "mem"); (case v3 => simp only [List.length_cons, List.length_nil, List.length_append]; omega); (case v4 => walk_at "put"); (case v5 => walk_at "own"); intro _ _)
  | with_reducible refine' Rd.asgT ?_
  | ((with_reducible refine' Rd.gtup ?v1 ?v2 ?v3 ?_); (case v1 => assumption); (case v2 => walk_at "mem"); (case v3 => exact rfl))
  | with_reducible refine' Rd.gcons ?_
  | with_reducible refine' Rd.gname ?_
  | with_reducible refine' Rd.gnil ?_
  | with_reducible refine' Rd.sl ?_
  | with_reducible refine' Rd.noPart ?_
  | with_reducible refine' Rd.part ?_
  | with_reducible refine' Rd.prt ?_
  | with_reducible refine' Rd.isB ?_
  | ((with_reducible refine' Rd.wp ?vh ?_); (case vh => exact rfl))
  | with_reducible refine' Rd.makeK ?_
  | with_reducible refine' Rd.meth ?_
  | ((with_reducible refine' Rd.catL ?v1 ?v2 ?v3 ?v4 ?_); (case v1 => assumption); (case v2 => walk_at "mem"); (case v3 => walk_at "mem"); (case v4 => simp only [List.length_cons, List.length_nil, List.length_append]; omega); intro _ _ _ _)
  | with_reducible refine' Rd.dnew ?_
  | ((with_reducible refine' Rd.dnewL ?v1 ?_); (case v1 => assumption); intro _ _ _ _)
  | with_reducible refine' Rd.lc ?_
  | with_reducible refine' Rd.wZ ?_
  | with_reducible refine' Rd.tYesH ?_
  | with_reducible refine' Rd.fmt ?_
  | with_reducible refine' Rd.joined ?_
  | with_reducible refine' Rd.jsNil ?_
  | with_reducible refine' Rd.jsCons ?_
  | ((with_reducible refine' Rd.isiT ?v1 ?v2 ?v3 ?v4 ?v5 ?_); (case v1 => assumption); (case v2 => walk_at "mem"); (case v3 => walk_at "ty"); (case v4 => first | exact .cons (.ty _) (.cons (.ty _) .nil) | exact .cons (.ty _) (.cons (.ty _) (.cons (.ty _) (.cons (.ty _) .nil))) | exact .cons (.ty _) (.cons (.ty _) (.cons (.ty _) .nil))); (case v5 => walk_at "kitA"))
  | with_reducible refine' Rd.forS ?_
  | with_reducible refine' Rd.wEnT ?_
  | ((with_reducible refine' Rd.wEnTL ?v1 ?v2 ?_); (case v1 => assumption); (case v2 => walk_at "mem"))
  | with_reducible refine' Rd.wL ?_
  | ((with_reducible refine' Rd.wLL ?v1 ?v2 ?_); (case v1 => assumption); (case v2 => walk_at "mem"))
  | with_reducible refine' Rd.wT ?_
  | ((with_reducible refine' Rd.wTL ?v1 ?v2 ?_); (case v1 => assumption); (case v2 => walk_at "mem"))
  | with_reducible refine' Rd.wR1 ?_
  | ((with_reducible refine' Rd.wR1L ?v1 ?v2 ?_); (case v1 => omega); (case v2 => omega))
  | with_reducible refine' Rd.wR2 ?_
  | ((with_reducible refine' Rd.wR2L ?v1 ?_); (case v1 => omega)))
local macro_rules | `(tactic| walk_at "rd") => `(tactic| repeat (walk_at "rd1"))

set_option exponentiation.threshold 20000
section
variable {P : Program} {w : World} {K : PySem.W.Frag} {mg : Str → Option Value} {base : Heap}
theorem take_ask {H0 H : Hp} {S : List Addr} {l : Led} {st c : Addr} {ns : List Int} {m : Int} {Q : VK} {E : XK} (s : Stt H0 S l H) (m1 : (st, DrS c) ∈ l) (m2 : (c, Is (.lst (ns.map V.int))) ∈ l) (hn : ns.length ≤ 63) (hs : st ∈ S ∨ H0 st = none)
    (h0 : 0 < m ∧ m < 2 ^ 100) (k : ∀ d H', 0 ≤ d ∧ d < m → Stt H0 S l H' → Q (.int d) H') : spTake ([.ref st, .int m] ++ []) H Q E :=
  ⟨st, c, ns, m, rfl, s.drawn m1 m2, hn, h0.1, h0.2, fun d H' a b q => k d H' ⟨a, b⟩ (s.after1 m1 q.keep hs (q.pick (by walk_at "mem")))⟩
local macro_rules | `(tactic| walk_at "ask") => `(tactic| ((with_reducible refine' take_ask ?v1 ?v2 ?v3 ?v4 ?v5 ?v6 ?_); (case v1 => assumption); (case v2 => walk_at "mem"); (case v3 => walk_at "mem"); (case v4 => assumption); (case v5 => walk_at "own"); (case v6 => first | decide | omega); intro _ _ _ _))
/-- things[take(len(things))] -/
def spOne : Sp := fun vs H Q _ => ∃ (st c : Addr) (ns : List Int) (p : Addr) (xs : List V), vs = [.ref st, .ref p] ∧ Stt H [st] [(p, Is (.lst xs)), (st, DrS c), (c, Is (.lst (ns.map V.int)))] H ∧ ns.length ≤ 63 ∧ 0 < xs.length ∧ xs.length ≤ 1000 ∧
  ∀ v H', v ∈ xs → Stt H [st] [(p, Is (.lst xs)), (st, DrS c), (c, Is (.lst (ns.map V.int)))] H' → Q v H'
theorem ok_l_one (T : Txt K mg) : FnOk P w K mg base CX0 3 (He.fAd K ("_law_one", none)) T.fd_l_one ["_law_state", "_law_things"] spOne := by
  refine T.F_l_one.ok sc_l_one (fun vs H Q E h => ?_) (fun cdv A outer s H vs Q E hr h => ?_)
  · obtain ⟨st, c, ns, m, xs, rfl, _⟩ := h
    rfl
  · obtain ⟨st, c, ns, p, xs, rfl, s0, hl, h0, h1, k⟩ := h
    refine ⟨_, PSs.nox (pss_one (ps_ret (pe_ix ix_list (pv 1) (pe_call (ok_l_take T) (hr.mono (by decide)) rfl T.g_l_take T.F_l_take.kp T.b_l_take .nil pass0 (pa_cons (pv 0) (pa_cons (pe_callB call_lenQ (by rfl) T.n_len PySem.boot_len (pa_cons (pv 1) pa_nil)) pa_nil))) (fun _ _ => rfl)))), ?_⟩
    walk_at "k"
    walk_at "rd"
    rename_i d H1 hd s1
    obtain ⟨j, rfl⟩ := Int.eq_ofNat_of_zero_le hd.1
    have hj : j < xs.length := by omega
    have hz : atI xs (j : Int) = some xs[j] := atI_nat (by simp [hj])
    walk_at "rd"
    exact k _ _ (List.getElem_mem hj) s1
theorem one_ask {H0 H : Hp} {S : List Addr} {l : Led} {st c p : Addr} {ns : List Int} {xs : List V} {Q : VK} {E : XK} (s : Stt H0 S l H) (sb : List.Sublist [(p, Is (.lst xs)), (st, DrS c), (c, Is (.lst (ns.map V.int)))] l) (hn : ns.length ≤ 63) (hs : st ∈ S ∨ H0 st = none)
    (h0 : 0 < xs.length ∧ xs.length ≤ 1000) (k : ∀ v H', v ∈ xs → Stt H0 S l H' → Q v H') : spOne ([.ref st, .ref p] ++ []) H Q E :=
  ⟨st, c, ns, p, xs, rfl, s.base sb, hn, h0.1, h0.2, fun v H' a q => k v H' a (s.after1 (f := DrS c) (sb.subset (by simp)) q.keep hs (q.pick (by walk_at "mem")))⟩
end

end
section
local macro_rules | `(tactic| walk_at "subl") => `(tactic| first | with_reducible exact List.nil_sublist _ | with_reducible exact List.Sublist.refl _ | (with_reducible refine List.Sublist.cons₂ _ ?_; walk_at "subl") | (with_reducible refine List.Sublist.cons _ ?_; walk_at "subl"))
local macro_rules | `(tactic| walk_at "k") => `(tactic| try dsimp only [L2.cxOf, L2.Cx.nox, L2.Cx.wish, L2.Cx.blk])
local macro_rules | `(tactic| walk_at "ask") => `(tactic| fail)
local macro_rules | `(tactic| walk_at "mem") => `(tactic| first | with_reducible exact List.mem_cons_self | (with_reducible apply List.mem_cons_of_mem; walk_at "mem"))
local macro_rules | `(tactic| walk_at "put") => `(tactic| first | with_reducible exact Lt.Put.head | (with_reducible apply Lt.Put.tail; walk_at "put"))
local macro_rules | `(tactic| walk_at "own") => `(tactic| first | exact Or.inr (by assumption) | exact Or.inl (by walk_at "mem"))
local macro_rules | `(tactic| walk_at "cnd") => `(tactic| first | assumption | decide | ((try dsimp only); omega) | (unfold CMul; omega) | (unfold CDiv; omega) | (unfold CPow; omega) | exact Or.inr (by decide) | exact Or.inl (by decide) | exact wide_div (b := 128) (by omega) (by omega) (by decide) (by decide))
local macro_rules | `(tactic| walk_at "at") => `(tactic| first | exact rfl | assumption)
local macro_rules | `(tactic| walk_at "kit") => `(tactic| first | assumption | exact kit_int_int | exact kit_int_bool | exact kit_int_str | exact kit_int_list | exact kit_int_tuple | exact kit_int_dict | exact kit_bool_int | exact kit_bool_bool | exact kit_bool_str | exact kit_bool_list | exact kit_bool_tuple | exact kit_bool_dict | exact kit_str_int | exact kit_str_bool | exact kit_str_str | exact kit_str_list | exact kit_str_tuple | exact kit_str_dict | exact kit_list_int | exact kit_list_bool | exact kit_list_str | exact kit_list_list | exact kit_list_tuple | exact kit_list_dict | exact kit_tuple_int | exact kit_tuple_bool | exact kit_tuple_str | exact kit_tuple_list | exact kit_tuple_tuple | exact kit_tuple_dict | exact kit_dict_int | exact kit_dict_bool | exact kit_dict_str | exact kit_dict_list | exact kit_dict_tuple | exact kit_dict_dict | exact kit_NoneType_int | exact kit_NoneType_bool | exact kit_NoneType_str | exact kit_NoneType_list | exact kit_NoneType_tuple | exact kit_NoneType_dict)
local macro_rules | `(tactic| walk_at "kitA") => `(tactic| first | assumption | exact kitA_lt_int | exact kitA_lt_bool | exact kitA_lt_str | exact kitA_lt_list | exact kitA_lt_tuple | exact kitA_lt_dict | exact kitA_lt_NoneType | exact kitA_bilt_int | exact kitA_bilt_bool | exact kitA_bilt_str | exact kitA_bilt_list | exact kitA_bilt_tuple | exact kitA_bilt_dict | exact kitA_bilt_NoneType)
local macro_rules | `(tactic| walk_at "ty") => `(tactic| first | exact .base (.int _) | exact .base (.bl _) | exact .base (.str _) | exact .base .non | exact .base (.lst (Stt.get (by assumption) (by walk_at "mem"))) | exact .base (.tup (Stt.get (by assumption) (by walk_at "mem"))) | exact .base (.dK (Stt.get (by assumption) (by walk_at "mem"))) | exact sqL_ty (Stt.upL (by assumption) (by assumption)) | exact sqT_ty (Stt.upT (by assumption) (by assumption)) | exact InsT.ty (by assumption) (Stt.get (by assumption) (by walk_at "mem")) | assumption)
local macro_rules | `(tactic| walk_at "rd1") => `(tactic| first
  | with_reducible refine' Rd.seq ?_
  | with_reducible refine' Rd.asg ?_
  | ((with_reducible refine' Rd.var ?vh ?_); (case vh => exact rfl))
  | with_reducible refine' Rd.con ?_
  | with_reducible refine' Rd.op ?_
  | with_reducible refine' Rd.i0 ?_
  | ((with_reducible refine' Rd.ic ?vh ?_); (case vh => walk_at "cnd"))
  | ((with_reducible refine' Rd.ixL ?v1 ?v2 ?v3 ?_); (case v1 => assumption); (case v2 => walk_at "mem"); (case v3 => walk_at "at"))
  | ((with_reducible refine' Rd.ixT ?v1 ?v2 ?v3 ?_); (case v1 => assumption); (case v2 => walk_at "mem"); (case v3 => walk_at "at"))
  | ((with_reducible refine' Rd.ixD2 ?v1 ?v2 ?_); (case v1 => assumption); (case v2 => walk_at "mem"); intro _)
  | ((with_reducible refine' Rd.ixD3 ?v1 ?v2 ?_); (case v1 => assumption); (case v2 => walk_at "mem"); intro _)
  | ((with_reducible refine' Rd.setD2 ?v1 ?v2 ?v3 ?v4 ?_); (case v1 => assumption); (case v2 => walk_at "mem"); (case v3 => walk_at "put"); (case v4 => walk_at "own"); intro _ _)
  | ((with_reducible refine' Rd.isi ?v1 ?v2 ?v3 ?_); (case v1 => walk_at "ty"); (case v2 => first | exact ClsV.ty _ | exact ClsV.own _); (case v3 => walk_at "kit"))
  | with_reducible refine' Rd.fld ?_
  | ((with_reducible refine' Rd.fldI ?v1 ?v2 ?v3 ?v4 ?v5 ?_); (case v1 => assumption); (case v2 => walk_at "mem"); (case v3 => assumption); (case v4 => assumption); (case v5 => walk_at "at"))
  | with_reducible refine' Rd.sfld ?_
  | ((with_reducible refine' Rd.sfldI ?v1 ?v2 ?v3 ?v4 ?v5 ?v6 ?v7 ?_); (case v1 => assumption); (case v2 => walk_at "mem"); (case v3 => assumption); (case v4 => assumption); (case v5 => first | decide | (refine Nat.lt_of_le_of_lt (putF_len _ _ _) ?_; decide)); (case v6 => walk_at "put"); (case v7 => walk_at "own"); intro _ _)
  | with_reducible refine' Rd.make ?_
  | with_reducible refine' Rd.gcd ?_
  | with_reducible refine' Rd.cons ?_
  | with_reducible refine' Rd.nil ?_
  | with_reducible refine' Rd.cb ?_
  | with_reducible refine' Rd.intI ?_
  | with_reducible refine' Rd.absI ?_
  | ((with_reducible refine' Rd.lenL ?v1 ?v2 ?_); (case v1 => assumption); (case v2 => walk_at "mem"))
  | ((with_reducible refine' Rd.lenT ?v1 ?v2 ?_); (case v1 => assumption); (case v2 => walk_at "mem"))
  | ((with_reducible refine' Rd.lenBL ?v1 ?v2 ?v3 ?_); (case v1 => assumption); (case v2 => assumption); (case v3 => first | exact List.not_mem_nil | assumption))
  | ((with_reducible refine' Rd.lenBT ?v1 ?v2 ?v3 ?_); (case v1 => assumption); (case v2 => assumption); (case v3 => first | exact List.not_mem_nil | assumption))
  | ((with_reducible refine' Rd.ixBL ?v1 ?v2 ?v4 ?v3 ?_); (case v1 => assumption); (case v2 => assumption); (case v4 => first | exact List.not_mem_nil | assumption); (case v3 => walk_at "at"))
  | ((with_reducible refine' Rd.ixBT ?v1 ?v2 ?v4 ?v3 ?_); (case v1 => assumption); (case v2 => assumption); (case v4 => first | exact List.not_mem_nil | assumption); (case v3 => walk_at "at"))
  | ((with_reducible refine' Rd.brI ?vh ?_); (case vh => with_reducible exact rfl))
  | with_reducible refine' Rd.ifS ?_
  | with_reducible refine' Rd.test ?_
  | with_reducible refine' Rd.tbl ?_
  | with_reducible refine' Rd.bl ?_
  | with_reducible refine' Rd.brTT ?_
  | with_reducible refine' Rd.brFF ?_
  | with_reducible refine' Rd.brN ?_
  | ((with_reducible refine' Rd.aug ?vh ?_); (case vh => exact rfl))
  | with_reducible refine' Rd.ipI ?_
  | with_reducible refine' Rd.blV ?_
  | with_reducible refine' Rd.notVL ?_
  | with_reducible refine' Rd.andT ?_
  | with_reducible refine' Rd.orT ?_
  | with_reducible refine' Rd.notT ?_
  | with_reducible refine' Rd.andV ?_
  | with_reducible refine' Rd.orV ?_
  | with_reducible refine' Rd.notV ?_
  | with_reducible refine' Rd.ifE ?_
  | ((with_reducible refine' Rd.eqS ?vh ?_); (case vh => exact rfl))
  | ((with_reducible refine' Rd.neS ?vh ?_); (case vh => exact rfl))
  | with_reducible refine' Rd.par ?_
  | with_reducible refine' Rd.parL ?_
  | with_reducible refine' Rd.un ?_
  | with_reducible refine' Rd.u1 ?_
  | with_reducible refine' Rd.sub ?_
  | ((with_reducible refine' Rd.setL ?v1 ?v2 ?v3 ?v4 ?v5 ?_); (case v1 => assumption); (case v2 => walk_at "mem"); (case v3 => walk_at "at"); (case v4 => walk_at "put"); (case v5 => walk_at "own"); intro _ _)
  | with_reducible refine' Rd.tup ?_
  | with_reducible refine' Rd.lst ?_
  | ((with_reducible refine' Rd.tupN ?v1 ?v2 ?_); (case v1 => assumption); (case v2 => simp only [List.length_cons, List.length_nil]; decide); intro _ _ _ _)
  | ((with_reducible refine' Rd.lstN ?v1 ?v2 ?_); (case v1 => assumption); (case v2 => simp only [List.length_cons, List.length_nil]; decide); intro _ _ _ _)
  | with_reducible refine' Rd.ret ?_
  | with_reducible refine' Rd.drop ?_
  | with_reducible refine' Rd.retN ?_
  | with_reducible refine' Rd.next ?_
  | with_reducible refine' Rd.brk ?_
  | with_reducible refine' Rd.cont ?_
  | with_reducible refine' Rd.call ?_
  | walk_at "ask"
  | with_reducible refine' Rd.bm ?_
  | ((with_reducible refine' Rd.bmL ?v1 ?v2 ?_); (case v1 => assumption); (case v2 => walk_at "mem"))
  | ((with_reducible refine' Rd.app ?v1 ?v2 ?v3 ?v4 ?v5 ?_); (case v1 => assumption); (case v2 => walk_at "mem"); (case v3 => simp only [List.length_cons, List.length_nil, List.length_append]; omega); (case v4 => walk_at "put"); (case v5 => walk_at "own"); intro _ _)
  | with_reducible refine' Rd.asgT ?_
  | ((with_reducible refine' Rd.gtup ?v1 ?v2 ?v3 ?_); (case v1 => assumption); (case v2 => walk_at "mem"); (case v3 => exact rfl))
  | with_reducible refine' Rd.gcons ?_
  | with_reducible refine' Rd.gname ?_
  | with_reducible refine' Rd.gnil ?_
  | with_reducible refine' Rd.sl ?_
  | with_reducible refine' Rd.noPart ?_
  | with_reducible refine' Rd.part ?_
  | with_reducible refine' Rd.prt ?_
  | with_reducible refine' Rd.isB ?_
  | ((with_reducible refine' Rd.wp ?vh ?_); (case vh => exact rfl))
  | with_reducible refine' Rd.makeK ?_
  | with_reducible refine' Rd.meth ?_
  | ((with_reducible refine' Rd.catL ?v1 ?v2 ?v3 ?v4 ?_); (case v1 => assumption); (case v2 => walk_at "mem"); (case v3 => walk_at "mem"); (case v4 => simp only [List.length_cons, List.length_nil, List.length_append]; omega); intro _ _ _ _)
  | with_reducible refine' Rd.dnew ?_
  | ((with_reducible refine' Rd.dnewL ?v1 ?_); (case v1 => assumption); intro _ _ _ _)
  | with_reducible refine' Rd.lc ?_
  | with_reducible refine' Rd.wZ ?_
  | with_reducible refine' Rd.tYesH ?_
  | with_reducible refine' Rd.fmt ?_
  | with_reducible refine' Rd.joined ?_
  | with_reducible refine' Rd.jsNil ?_
  | with_reducible refine' Rd.jsCons ?_
  | ((with_reducible refine' Rd.isiT ?v1 ?v2 ?v3 ?v4 ?v5 ?_); (case v1 => assumption); (case v2 => walk_at "mem"); (case v3 => walk_at "ty"); (case v4 => first | exact .cons (.ty _) (.cons (.ty _) .nil) | exact .cons (.ty _) (.cons (.ty _) (.cons (.ty _) (.cons (.ty _) .nil))) | exact .cons (.ty _) (.cons (.ty _) (.cons (.ty _) .nil))); (case v5 => walk_at "kitA"))
  | with_reducible refine' Rd.forS ?_
  | with_reducible refine' Rd.wEnT ?_
  | ((with_reducible refine' Rd.wEnTL ?v1 ?v2 ?_); (case v1 => assumption); (case v2 => walk_at "mem"))
  | with_reducible refine' Rd.wL ?_
  | ((with_reducible refine' Rd.wLL ?v1 ?v2 ?_); (case v1 => assumption); (case v2 => walk_at "mem"))
  | with_reducible refine' Rd.wT ?_
  | ((with_reducible refine' Rd.wTL ?v1 ?v2 ?_); (case v1 => assumption); (case v2 => walk_at "mem"))
  | with_reducible refine' Rd.wR1 ?_
  | ((with_reducible refine' Rd.wR1L ?v1 ?v2 ?_); (case v1 => omega); (case v2 => omega))
  | with_reducible refine' Rd.wR2 ?_
  | ((with_reducible refine' Rd.wR2L ?v1 ?_); (case v1 => omega)))
local macro_rules | `(tactic| walk_at "rd") => `(tactic| repeat (walk_at "rd1"))

section
variable {P : Program} {w : World} {K : PySem.W.Frag} {mg : Str → Option Value} {base : Heap}
/-- the same at every depth, at most n lists or tuples deep; a dict beside itself -/
inductive Sm (G : Hp) : Nat → V → V → Prop where
  | non (n : Nat) : Sm G n .non .non
  | bl (n : Nat) (b : Bool) : Sm G n (.bl b) (.bl b)
  | int (n : Nat) (i : Int) : Sm G n (.int i) (.int i)
  | str (n : Nat) (z : Str) : Sm G n (.str z) (.str z)
  | lst {n : Nat} {a b : Addr} {xs ys : List V} (h1 : G a = some (.lst xs)) (h2 : G b = some (.lst ys)) (hl : xs.length = ys.length) (hz : xs.length ≤ 1000) (r : ∀ (i : Nat) x y, xs[i]? = some x → ys[i]? = some y → Sm G n x y) : Sm G (n + 1) (.ref a) (.ref b)
  | tup {n : Nat} {a b : Addr} {xs ys : List V} (h1 : G a = some (.tup xs)) (h2 : G b = some (.tup ys)) (hl : xs.length = ys.length) (hz : xs.length ≤ 1000) (r : ∀ (i : Nat) x y, xs[i]? = some x → ys[i]? = some y → Sm G n x y) : Sm G (n + 1) (.ref a) (.ref b)
  | dct (n : Nat) {a : Addr} {kvs : List (Key × V)} (h : G a = some (.dK kvs)) (nd : (kvs.map (·.1)).Nodup) (f : ∀ p ∈ kvs, flatR p.2) : Sm G n (.ref a) (.ref a)
theorem Sm.mono {G G' : Hp} (k : ∀ b o, G b = some o → G' b = some o) {n : Nat} {x y : V} (h : Sm G n x y) : Sm G' n x y := by
  induction h with
  | non n => exact .non n
  | bl n b => exact .bl n b
  | int n i => exact .int n i
  | str n z => exact .str n z
  | lst h1 h2 hl hz r ih => exact .lst (k _ _ h1) (k _ _ h2) hl hz ih
  | tup h1 h2 hl hz r ih => exact .tup (k _ _ h1) (k _ _ h2) hl hz ih
  | dct n h nd f => exact .dct n (k _ _ h) nd f
theorem Sm.kp {H H' : Hp} (k : Kp [] H H') {n : Nat} {x y : V} (h : Sm H n x y) : Sm H' n x y := h.mono fun b o e => k.get List.not_mem_nil e
def rEqOr : R2 := fun x y H Q => rEq x y H Q ∨ rEqSelf x y H Q
theorem op_eqOr {X : Cx} (hu : X.A.units < cLine) : OpR X (compareOp .Eq) rEqOr := fun pins s σ H x y v u Q I rx ry h => h.elim (op_eq pins s σ H x y v u Q I rx ry) (op_eqSelf hu pins s σ H x y v u Q I rx ry)
theorem eqOrS {x y : V} {H : Hp} {Q : VK} (s : scal x y = true) (h : Q (.bl (decide (x = y))) H) : rEqOr x y H Q := .inl ⟨s, h⟩
local macro_rules | `(tactic| walk_at "ask") => `(tactic| ((with_reducible refine' eqOrS ?vh ?_); (case vh => exact rfl)))
theorem dK_ty {H0 H : Hp} {l : Led} {a : Addr} {kvs : List (Key × V)} (s : Stt H0 [] l H) (h : H0 a = some (.dK kvs)) : TyX K H (.ref a) (.type "dict") := .base (.dK (s.keep.get List.not_mem_nil h))
local macro_rules | `(tactic| walk_at "ty") => `(tactic| exact dK_ty (by assumption) (by assumption))
def spSame (n : Nat) : Sp := fun vs H Q _ => ∃ x y : V, vs = [x, y] ∧ Sm H n x y ∧ ∀ H', Kp [] H H' → Q (.bl true) H'
theorem same_body (T : Txt K mg) (n k : Nat) (hk : k ≤ 60) (sp0 : Sp) (F0 : FnOk P w K mg base CX0 k (He.fAd K ("_law_same", none)) T.fd_l_same ["_law_found", "_law_due"] sp0)
    (h0 : ∀ x y H Q E, (∃ m, m + 1 = n ∧ Sm H m x y ∧ ∀ H', Kp [] H H' → Q (.bl true) H') → sp0 [x, y] H Q E) : FnOk P w K mg base CX0 (k + 1) (He.fAd K ("_law_same", none)) T.fd_l_same ["_law_found", "_law_due"] (spSame n) := by
  refine T.F_l_same.ok sc_l_same (fun vs H Q E h => ?_) (fun cdv A outer s H vs Q E hr h => ?_)
  · obtain ⟨x, y, rfl, _⟩ := h
    rfl
  · obtain ⟨x, y, rfl, hx, q⟩ := h
    refine ⟨_, PSs.nox (pss_cons (ps_if (pt_val (pe_callB call_isiT (by rfl) T.n_isinstance (by decide +kernel) (pa_cons (pv 1) (pa_cons (pe_tup (pa_cons (pe_bltn (v := .ty "list") (by rfl) T.n_list (by decide +kernel) (show RelV (.ty "list") (.type "list") from rfl)) (pa_cons (pe_bltn (v := .ty "tuple") (by rfl) T.n_tuple (by decide +kernel) (show RelV (.ty "tuple") (.type "tuple") from rfl)) pa_nil))) pa_nil)))) (pss_cons (ps_if (PW.pt (pw_or (pt_cmpR op_ne (pe_callB call_isi (by rfl) T.n_isinstance (by decide +kernel) (pa_cons (pv 0) (pa_cons (pe_bltn (v := .ty "list") (by rfl) T.n_list (by decide +kernel) (show RelV (.ty "list") (.type "list") from rfl)) pa_nil))) (pe_callB call_isi (by rfl) T.n_isinstance (by decide +kernel) (pa_cons (pv 1) (pa_cons (pe_bltn (v := .ty "list") (by rfl) T.n_list (by decide +kernel) (show RelV (.ty "list") (.type "list") from rfl)) pa_nil))) (nomark _)) (pw_or1 (pt_cmpR op_ne (pe_callB call_isi (by rfl) T.n_isinstance (by decide +kernel) (pa_cons (pv 0) (pa_cons (pe_bltn (v := .ty "tuple") (by rfl) T.n_tuple (by decide +kernel) (show RelV (.ty "tuple") (.type "tuple") from rfl)) pa_nil))) (pe_callB call_isi (by rfl) T.n_isinstance (by decide +kernel) (pa_cons (pv 1) (pa_cons (pe_bltn (v := .ty "tuple") (by rfl) T.n_tuple (by decide +kernel) (show RelV (.ty "tuple") (.type "tuple") from rfl)) pa_nil))) (nomark _))))) (pss_one (ps_ret pe_bl))
   pss_nil)
  (pss_one (ps_ret (pe_and (pe_cmpR op_eq (pe_callB call_lenQ (by rfl) T.n_len PySem.boot_len (pa_cons (pv 0) pa_nil)) (pe_callB call_lenQ (by rfl) T.n_len PySem.boot_len (pa_cons (pv 1) pa_nil)) (nomark _)) (pe_one (pe_callB (cr_all rfl) (by rfl) T.n_all (by decide +kernel) (pa_cons (pe_lc (own := [("_law_a", 2), ("_law_b", 3)]) (g := gTup K 2 (gCons (gName 2) (gCons (gName 3) (gNil)))) (tt := tYes) (by rfl) sc_l_same.nd (RZ.pi_zipA (by rfl) T.n_zip (pa_cons (pv 0) (pa_cons (pv 1) pa_nil))) (blkOk_by (own := [("_law_a", 2), ("_law_b", 3)]) (N := ["_law_found", "_law_due", "_law_a", "_law_b"]) (sc := defScope s_l_same) (by decide +kernel)) (fun _ _ _ _ _ => (pg_tup (by rfl) (pgs_cons (pg_name (i := 2) sc_l_same.nd rfl (by first | exact Or.inl rfl | exact Or.inr rfl)) (pgs_cons (pg_name (i := 3) sc_l_same.nd rfl (by first | exact Or.inl rfl | exact Or.inr rfl)) pgs_nil)))) (fun _ _ _ _ _ => pts_nil) (fun _ _ _ _ _ => (pe_call F0 hr rfl T.g_l_same T.F_l_same.kp T.b_l_same .nil pass0 (pa_cons (pv 2) (pa_cons (pv 3) pa_nil))))) pa_nil)))))))
   pss_nil)
  (pss_cons (ps_if (pt_val (pe_callB call_isi (by rfl) T.n_isinstance (by decide +kernel) (pa_cons (pv 1) (pa_cons (pe_bltn (v := .ty "int") (by rfl) T.n_int (by decide +kernel) (show RelV (.ty "int") (.type "int") from rfl)) pa_nil)))) (pss_one (ps_ret (pe_and (pe_callB call_isi (by rfl) T.n_isinstance (by decide +kernel) (pa_cons (pv 0) (pa_cons (pe_bltn (v := .ty "int") (by rfl) T.n_int (by decide +kernel) (show RelV (.ty "int") (.type "int") from rfl)) pa_nil))) (pe_and (pe_cmpR op_eq (pe_callB call_isi (by rfl) T.n_isinstance (by decide +kernel) (pa_cons (pv 0) (pa_cons (pe_bltn (v := .ty "bool") (by rfl) T.n_bool (by decide +kernel) (show RelV (.ty "bool") (.type "bool") from rfl)) pa_nil))) (pe_callB call_isi (by rfl) T.n_isinstance (by decide +kernel) (pa_cons (pv 1) (pa_cons (pe_bltn (v := .ty "bool") (by rfl) T.n_bool (by decide +kernel) (show RelV (.ty "bool") (.type "bool") from rfl)) pa_nil))) (nomark _)) (pe_one (pe_cmpR (op_eqOr (Nat.lt_of_le_of_lt (Nat.le_add_right _ _) hr.units)) (pv 0) (pv 1) (nomark _)))))))
   pss_nil)
  (pss_one (ps_ret (pe_and (pe_cmpR op_isBl (pe_callB call_isiT (by rfl) T.n_isinstance (by decide +kernel) (pa_cons (pv 0) (pa_cons (pe_tup (pa_cons (pe_bltn (v := .ty "bool") (by rfl) T.n_bool (by decide +kernel) (show RelV (.ty "bool") (.type "bool") from rfl)) (pa_cons (pe_bltn (v := .ty "int") (by rfl) T.n_int (by decide +kernel) (show RelV (.ty "int") (.type "int") from rfl)) (pa_cons (pe_bltn (v := .ty "list") (by rfl) T.n_list (by decide +kernel) (show RelV (.ty "list") (.type "list") from rfl)) (pa_cons (pe_bltn (v := .ty "tuple") (by rfl) T.n_tuple (by decide +kernel) (show RelV (.ty "tuple") (.type "tuple") from rfl)) pa_nil))))) pa_nil))) pe_bl (nomark _)) (pe_one (pe_cmpR (op_eqOr (Nat.lt_of_le_of_lt (Nat.le_add_right _ _) hr.units)) (pv 0) (pv 1) (nomark _)))))))), ?_⟩
    walk_at "k"
    have s0 : Stt H [] [] H := Stt.nil
    have e1 : ∀ v : V, decide (v = v) = true := fun v => decide_eq_true rfl
    cases hx with
    | non =>
      walk_at "rd"
      rename_i s1
      rw [e1]
      exact q _ s1.keep
    | bl _ b =>
      walk_at "rd"
      rename_i s1
      rw [e1]
      exact q _ s1.keep
    | int _ i =>
      walk_at "rd"
      rename_i s1
      rw [e1]
      exact q _ s1.keep
    | str _ z =>
      walk_at "rd"
      rename_i s1
      rw [e1]
      exact q _ s1.keep
    | @lst m a b xs ys h1 h2 hlen hz r =>
      have hx : SqL K H a xs := SqL.of h1
      have hy : SqL K H b ys := SqL.of h2
      walk_at "rd"
      refine Rd.brI (by rw [hlen]) ?_
      walk_at "rd"
      rename_i p0 _ _ s1
      refine Rd.zL (s1.upL hx) (s1.upL hy) ?_
      refine Rd.lcG (walk_zip rfl) s1 (fun i acc ex => ex = [] ∧ acc = List.replicate i (.bl true)) ⟨rfl, rfl⟩ (fun H' D acc ex _ q => ⟨q.upL hx, q.upL hy⟩) ?_ ?_
      · rintro D hD i x HA HB acc ex hi ⟨rfl, rfl⟩ hac s2 ⟨p, x1, y1, rfl, hp, rfl, e2, e3⟩
        have s3 := s2.new hp (.tup [x1, y1])
        walk_at "rd"
        refine h0 x1 y1 _ _ _ ⟨m, rfl, (r i x1 y1 e2 e3).kp s3.keep, fun H5 k5 => ?_⟩
        have s5 := (s3.after0 k5).sub (List.Sublist.cons _ (List.Sublist.refl _))
        exact Rd.lcE s5 hD (by omega) hac ⟨rfl, by rw [List.replicate_succ']⟩
      · rintro D HA acc ex hD ⟨rfl, rfl⟩ s2
        have s3 : Stt H [] ((D, Is (.lst ((List.replicate (min xs.length ys.length) true).map V.bl))) :: ([] ++ [(p0, Is (.tup [V.ty "list", V.ty "tuple"]))])) HA := by
          rw [List.map_replicate]
          exact s2
        walk_at "rd"
        refine Rd.allL s3 (by walk_at "mem") ?_
        walk_at "rd"
        have e3 : (List.replicate (min xs.length ys.length) true).all id = true := by simp
        rw [e3]
        exact q _ s3.keep
    | @tup m a b xs ys h1 h2 hlen hz r =>
      have hx : SqT K H a xs := SqT.of h1
      have hy : SqT K H b ys := SqT.of h2
      walk_at "rd"
      refine Rd.brI (by rw [hlen]) ?_
      walk_at "rd"
      rename_i p0 _ _ s1
      refine Rd.zT (s1.upT hx) (s1.upT hy) ?_
      refine Rd.lcG (walk_zipT rfl) s1 (fun i acc ex => ex = [] ∧ acc = List.replicate i (.bl true)) ⟨rfl, rfl⟩ (fun H' D acc ex _ q => ⟨q.upT hx, q.upT hy⟩) ?_ ?_
      · rintro D hD i x HA HB acc ex hi ⟨rfl, rfl⟩ hac s2 ⟨p, x1, y1, rfl, hp, rfl, e2, e3⟩
        have s3 := s2.new hp (.tup [x1, y1])
        walk_at "rd"
        refine h0 x1 y1 _ _ _ ⟨m, rfl, (r i x1 y1 e2 e3).kp s3.keep, fun H5 k5 => ?_⟩
        have s5 := (s3.after0 k5).sub (List.Sublist.cons _ (List.Sublist.refl _))
        exact Rd.lcE s5 hD (by omega) hac ⟨rfl, by rw [List.replicate_succ']⟩
      · rintro D HA acc ex hD ⟨rfl, rfl⟩ s2
        have s3 : Stt H [] ((D, Is (.lst ((List.replicate (min xs.length ys.length) true).map V.bl))) :: ([] ++ [(p0, Is (.tup [V.ty "list", V.ty "tuple"]))])) HA := by
          rw [List.map_replicate]
          exact s2
        walk_at "rd"
        refine Rd.allL s3 (by walk_at "mem") ?_
        walk_at "rd"
        have e3 : (List.replicate (min xs.length ys.length) true).all id = true := by simp
        rw [e3]
        exact q _ s3.keep
    | @dct _ a kvs h nd f =>
      walk_at "rd"
      rename_i s1
      refine .inr ⟨a, kvs, rfl, rfl, s1.keep.get List.not_mem_nil h, nd, f, ?_⟩
      exact q _ s1.keep
theorem ok_l_same (T : Txt K mg) : ∀ n, n ≤ 60 → FnOk P w K mg base CX0 (n + 1) (He.fAd K ("_law_same", none)) T.fd_l_same ["_law_found", "_law_due"] (spSame n)
  | 0, _ => same_body T 0 0 (by omega) _ fnok_false fun x y H Q E ⟨m, h, _⟩ => by omega
  | n + 1, hn => same_body T (n + 1) (n + 1) hn _ (ok_l_same T n (by omega)) fun x y H Q E ⟨m, h1, h2, h3⟩ => by
    cases h1
    exact ⟨x, y, rfl, h2, h3⟩
end

end
section
local macro_rules | `(tactic| walk_at "subl") => `(tactic| first | with_reducible exact List.nil_sublist _ | with_reducible exact List.Sublist.refl _ | (with_reducible refine List.Sublist.cons₂ _ ?_; walk_at "subl") | (with_reducible refine List.Sublist.cons _ ?_; walk_at "subl"))
local macro_rules | `(tactic| walk_at "k") => `(tactic| try dsimp only [L2.cxOf, L2.Cx.nox, L2.Cx.wish, L2.Cx.blk])
local macro_rules | `(tactic| walk_at "ask") => `(tactic| fail)
local macro_rules | `(tactic| walk_at "mem") => `(tactic| first | with_reducible exact List.mem_cons_self | (with_reducible apply List.mem_cons_of_mem; walk_at "mem"))
local macro_rules | `(tactic| walk_at "put") => `(tactic| first | with_reducible exact Lt.Put.head | (with_reducible apply Lt.Put.tail; walk_at "put"))
local macro_rules | `(tactic| walk_at "own") => `(tactic| first | exact Or.inr (by assumption) | exact Or.inl (by walk_at "mem"))
local macro_rules | `(tactic| walk_at "cnd") => `(tactic| first | assumption | decide | ((try dsimp only); omega) | (unfold CMul; omega) | (unfold CDiv; omega) | (unfold CPow; omega) | exact Or.inr (by decide) | exact Or.inl (by decide) | exact wide_div (b := 128) (by omega) (by omega) (by decide) (by decide))
local macro_rules | `(tactic| walk_at "at") => `(tactic| first | exact rfl | assumption)
local macro_rules | `(tactic| walk_at "kit") => `(tactic| first | assumption | exact kit_int_int | exact kit_int_bool | exact kit_int_str | exact kit_int_list | exact kit_int_tuple | exact kit_int_dict | exact kit_bool_int | exact kit_bool_bool | exact kit_bool_str | exact kit_bool_list | exact kit_bool_tuple | exact kit_bool_dict | exact kit_str_int | exact kit_str_bool | exact kit_str_str | exact kit_str_list | exact kit_str_tuple | exact kit_str_dict | exact kit_list_int | exact kit_list_bool | exact kit_list_str | exact kit_list_list | exact kit_list_tuple | exact kit_list_dict | exact kit_tuple_int | exact kit_tuple_bool | exact kit_tuple_str | exact kit_tuple_list | exact kit_tuple_tuple | exact kit_tuple_dict | exact kit_dict_int | exact kit_dict_bool | exact kit_dict_str | exact kit_dict_list | exact kit_dict_tuple | exact kit_dict_dict | exact kit_NoneType_int | exact kit_NoneType_bool | exact kit_NoneType_str | exact kit_NoneType_list | exact kit_NoneType_tuple | exact kit_NoneType_dict)
local macro_rules | `(tactic| walk_at "kitA") => `(tactic| first | assumption | exact kitA_lt_int | exact kitA_lt_bool | exact kitA_lt_str | exact kitA_lt_list | exact kitA_lt_tuple | exact kitA_lt_dict | exact kitA_lt_NoneType | exact kitA_bilt_int | exact kitA_bilt_bool | exact kitA_bilt_str | exact kitA_bilt_list | exact kitA_bilt_tuple | exact kitA_bilt_dict | exact kitA_bilt_NoneType)
local macro_rules | `(tactic| walk_at "ty") => `(tactic| first | exact .base (.int _) | exact .base (.bl _) | exact .base (.str _) | exact .base .non | exact .base (.lst (Stt.get (by assumption) (by walk_at "mem"))) | exact .base (.tup (Stt.get (by assumption) (by walk_at "mem"))) | exact .base (.dK (Stt.get (by assumption) (by walk_at "mem"))) | exact sqL_ty (Stt.upL (by assumption) (by assumption)) | exact sqT_ty (Stt.upT (by assumption) (by assumption)) | exact InsT.ty (by assumption) (Stt.get (by assumption) (by walk_at "mem")) | assumption)
local macro_rules | `(tactic| walk_at "rd1") => `(tactic| first
  | with_reducible refine' Rd.seq ?_
  | with_reducible refine' Rd.asg ?_
  | ((with_reducible refine' Rd.var ?vh ?_); (case vh => exact rfl))
  | with_reducible refine' Rd.con ?_
  | with_reducible refine' Rd.op ?_
  | with_reducible refine' Rd.i0 ?_
  | ((with_reducible refine' Rd.ic ?vh ?_); (case vh => walk_at "cnd"))
  | ((with_reducible refine' Rd.ixL ?v1 ?v2 ?v3 ?_); (case v1 => assumption); (case v2 => walk_at "mem"); (case v3 => walk_at "at"))
  | ((with_reducible refine' Rd.ixT ?v1 ?v2 ?v3 ?_); (case v1 => assumption); (case v2 => walk_at "mem"); (case v3 => walk_at "at"))
  | ((with_reducible refine' Rd.ixD2 ?v1 ?v2 ?_); (case v1 => assumption); (case v2 => walk_at "mem"); intro _)
  | ((with_reducible refine' Rd.ixD3 ?v1 ?v2 ?_); (case v1 => assumption); (case v2 => walk_at "mem"); intro _)
  | ((with_reducible refine' Rd.setD2 ?v1 ?v2 ?v3 ?v4 ?_); (case v1 => assumption); (case v2 => walk_at "mem"); (case v3 => walk_at "put"); (case v4 => walk_at "own"); intro _ _)
  | ((with_reducible refine' Rd.isi ?v1 ?v2 ?v3 ?_); (case v1 => walk_at "ty"); (case v2 => first | exact ClsV.ty _ | exact ClsV.own _); (case v3 => walk_at "kit"))
  | with_reducible refine' Rd.fld ?_
  | ((with_reducible refine' Rd.fldI ?v1 ?v2 ?v3 ?v4 ?v5 ?_); (case v1 => assumption); (case v2 => walk_at "mem"); (case v3 => assumption); (case v4 => assumption); (case v5 => walk_at "at"))
  | with_reducible refine' Rd.sfld ?_
  | ((with_reducible refine' Rd.sfldI ?v1 ?v2 ?v3 ?v4 ?v5 ?v6 ?v7 ?_); (case v1 => assumption); (case v2 => walk_at "mem"); (case v3 => assumption); (case v4 => assumption); (case v5 => first | decide | (refine Nat.lt_of_le_of_lt (putF_len _ _ _) ?_; decide)); (case v6 => walk_at "put"); (case v7 => walk_at "own"); intro _ _)
  | with_reducible refine' Rd.make ?_
  | with_reducible refine' Rd.gcd ?_
  | with_reducible refine' Rd.cons ?_
  | with_reducible refine' Rd.nil ?_
  | with_reducible refine' Rd.cb ?_
  | with_reducible refine' Rd.intI ?_
  | with_reducible refine' Rd.absI ?_
  | ((with_reducible refine' Rd.lenL ?v1 ?v2 ?_); (case v1 => assumption); (case v2 => walk_at "mem"))
  | ((with_reducible refine' Rd.lenT ?v1 ?v2 ?_); (case v1 => assumption); (case v2 => walk_at "mem"))
  | ((with_reducible refine' Rd.lenBL ?v1 ?v2 ?v3 ?_); (case v1 => assumption); (case v2 => assumption); (case v3 => first | exact List.not_mem_nil | assumption))
  | ((with_reducible refine' Rd.lenBT ?v1 ?v2 ?v3 ?_); (case v1 => assumption); (case v2 => assumption); (case v3 => first | exact List.not_mem_nil | assumption))
  | ((with_reducible refine' Rd.ixBL ?v1 ?v2 ?v4 ?v3 ?_); (case v1 => assumption); (case v2 => assumption); (case v4 => first | exact List.not_mem_nil | assumption); (case v3 => walk_at "at"))
  | ((with_reducible refine' Rd.ixBT ?v1 ?v2 ?v4 ?v3 ?_); (case v1 => assumption); (case v2 => assumption); (case v4 => first | exact List.not_mem_nil | assumption); (case v3 => walk_at "at"))
  | ((with_reducible refine' Rd.brI ?vh ?_); (case vh => with_reducible exact rfl))
  | with_reducible refine' Rd.ifS ?_
  | with_reducible refine' Rd.test ?_
  | with_reducible refine' Rd.tbl ?_
  | with_reducible refine' Rd.bl ?_
  | with_reducible refine' Rd.brTT ?_
  | with_reducible refine' Rd.brFF ?_
  | with_reducible refine' Rd.brN ?_
  | ((with_reducible refine' Rd.aug ?vh ?_); (case vh => exact rfl))
  | with_reducible refine' Rd.ipI ?_
  | with_reducible refine' Rd.blV ?_
  | with_reducible refine' Rd.notVL ?_
  | with_reducible refine' Rd.andT ?_
  | with_reducible refine' Rd.orT ?_
  | with_reducible refine' Rd.notT ?_
  | with_reducible refine' Rd.andV ?_
  | with_reducible refine' Rd.orV ?_
  | with_reducible refine' Rd.notV ?_
  | with_reducible refine' Rd.ifE ?_
  | ((with_reducible refine' Rd.eqS ?vh ?_); (case vh => exact rfl))
  | ((with_reducible refine' Rd.neS ?vh ?_); (case vh => exact rfl))
  | with_reducible refine' Rd.par ?_
  | with_reducible refine' Rd.parL ?_
  | with_reducible refine' Rd.un ?_
  | with_reducible refine' Rd.u1 ?_
  | with_reducible refine' Rd.sub ?_
  | ((with_reducible refine' Rd.setL ?v1 ?v2 ?v3 ?v4 ?v5 ?_); (case v1 => assumption); (case v2 => walk_at "mem"); (case v3 => walk_at "at"); (case v4 => walk_at "put"); (case v5 => walk_at "own"); intro _ _)
  | with_reducible refine' Rd.tup ?_
  | with_reducible refine' Rd.lst ?_
  | ((with_reducible refine' Rd.tupN ?v1 ?v2 ?_); (case v1 => assumption); (case v2 => simp only [List.length_cons, List.length_nil]; decide); intro _ _ _ _)
  | ((with_reducible refine' Rd.lstN ?v1 ?v2 ?_); (case v1 => assumption); (case v2 => simp only [List.length_cons, List.length_nil]; decide); intro _ _ _ _)
  | with_reducible refine' Rd.ret ?_
  | with_reducible refine' Rd.drop ?_
  | with_reducible refine' Rd.retN ?_
  | with_reducible refine' Rd.next ?_
  | with_reducible refine' Rd.brk ?_
  | with_reducible refine' Rd.cont ?_
  | with_reducible refine' Rd.call ?_
  | walk_at "ask"
  | with_reducible refine' Rd.bm ?_
  | ((with_reducible refine' Rd.bmL ?v1 ?v2 ?_); (case v1 => assumption); (case v2 => walk_at "mem"))
  | ((with_reducible refine' Rd.app ?v1 ?v2 ?v3 ?v4 ?v5 ?_); (case v1 => assumption); (case v2 => walk_at "mem"); (case v3 => simp only [List.length_cons, List.length_nil, List.length_append]; omega); (case v4 => walk_at "put"); (case v5 => walk_at "own"); intro _ _)
  | with_reducible refine' Rd.asgT ?_
  | ((with_reducible refine' Rd.gtup ?v1 ?v2 ?v3 ?_); (case v1 => assumption); (case v2 => walk_at "mem"); (case v3 => exact rfl))
  | with_reducible refine' Rd.gcons ?_
  | with_reducible refine' Rd.gname ?_
  | with_reducible refine' Rd.gnil ?_
  | with_reducible refine' Rd.sl ?_
  | with_reducible refine' Rd.noPart ?_
  | with_reducible refine' Rd.part ?_
  | with_reducible refine' Rd.prt ?_
  | with_reducible refine' Rd.isB ?_
  | ((with_reducible refine' Rd.wp ?vh ?_); (case vh => exact rfl))
  | with_reducible refine' Rd.makeK ?_
  | with_reducible refine' Rd.meth ?_
  | ((with_reducible refine' Rd.catL ?v1 ?v2 ?v3 ?v4 ?_); (case v1 => assumption); (case v2 => walk_at "mem"); (case v3 => walk_at "mem"); (case v4 => simp only [List.length_cons, List.length_nil, List.length_append]; omega); intro _ _ _ _)
  | with_reducible refine' Rd.dnew ?_
  | ((with_reducible refine' Rd.dnewL ?v1 ?_); (case v1 => assumption); intro _ _ _ _)
  | with_reducible refine' Rd.lc ?_
  | with_reducible refine' Rd.wZ ?_
  | with_reducible refine' Rd.tYesH ?_
  | with_reducible refine' Rd.fmt ?_
  | with_reducible refine' Rd.joined ?_
  | with_reducible refine' Rd.jsNil ?_
  | with_reducible refine' Rd.jsCons ?_
  | ((with_reducible refine' Rd.isiT ?v1 ?v2 ?v3 ?v4 ?v5 ?_); (case v1 => assumption); (case v2 => walk_at "mem"); (case v3 => walk_at "ty"); (case v4 => first | exact .cons (.ty _) (.cons (.ty _) .nil) | exact .cons (.ty _) (.cons (.ty _) (.cons (.ty _) (.cons (.ty _) .nil))) | exact .cons (.ty _) (.cons (.ty _) (.cons (.ty _) .nil))); (case v5 => walk_at "kitA"))
  | with_reducible refine' Rd.forS ?_
  | with_reducible refine' Rd.wEnT ?_
  | ((with_reducible refine' Rd.wEnTL ?v1 ?v2 ?_); (case v1 => assumption); (case v2 => walk_at "mem"))
  | with_reducible refine' Rd.wL ?_
  | ((with_reducible refine' Rd.wLL ?v1 ?v2 ?_); (case v1 => assumption); (case v2 => walk_at "mem"))
  | with_reducible refine' Rd.wT ?_
  | ((with_reducible refine' Rd.wTL ?v1 ?v2 ?_); (case v1 => assumption); (case v2 => walk_at "mem"))
  | with_reducible refine' Rd.wR1 ?_
  | ((with_reducible refine' Rd.wR1L ?v1 ?v2 ?_); (case v1 => omega); (case v2 => omega))
  | with_reducible refine' Rd.wR2 ?_
  | ((with_reducible refine' Rd.wR2L ?v1 ?_); (case v1 => omega)))
local macro_rules | `(tactic| walk_at "rd") => `(tactic| repeat (walk_at "rd1"))

section
variable {P : Program} {w : World} {K : PySem.W.Frag} {mg : Str → Option Value} {base : Heap}
theorem ok_BadPart_init (T : Txt K mg) : FnOk P w K mg base CX0 1 (He.fAd K ("BadPart", some "__init__")) T.fd_BadPart_init ["self", "part"] (spExI (He.ga K "BadPart") "part") := by
  refine T.F_BadPart_init.ok sc_BadPart_init (fun vs H Q E h => ?_) (fun cdv A outer s H vs Q E hr h => ?_)
  · obtain ⟨a, v, rfl, _⟩ := h
    rfl
  · obtain ⟨a, v, rfl, ha, k⟩ := h
    refine ⟨_, PSs.nox (pss_one (ps_ost (pv 0) (pv 1))), ?_⟩
    exact ⟨_, rfl, _, rfl, a, _, rfl, T.x_BadPart.oex, T.a_BadPart_part, .inl ⟨ha, fun d hd hn => k d hd hn⟩⟩
theorem ok_BadText_init (T : Txt K mg) : FnOk P w K mg base CX0 1 (He.fAd K ("BadText", some "__init__")) T.fd_BadText_init ["self", "line"] (spExI (He.ga K "BadText") "line") := by
  refine T.F_BadText_init.ok sc_BadText_init (fun vs H Q E h => ?_) (fun cdv A outer s H vs Q E hr h => ?_)
  · obtain ⟨a, v, rfl, _⟩ := h
    rfl
  · obtain ⟨a, v, rfl, ha, k⟩ := h
    refine ⟨_, PSs.nox (pss_one (ps_ost (pv 0) (pv 1))), ?_⟩
    exact ⟨_, rfl, _, rfl, a, _, rfl, T.x_BadText.oex, T.a_BadText_line, .inl ⟨ha, fun d hd hn => k d hd hn⟩⟩
theorem ok_BadTask_init (T : Txt K mg) : FnOk P w K mg base CX0 1 (He.fAd K ("BadTask", some "__init__")) T.fd_BadTask_init ["self", "index"] (spExI (He.ga K "BadTask") "index") := by
  refine T.F_BadTask_init.ok sc_BadTask_init (fun vs H Q E h => ?_) (fun cdv A outer s H vs Q E hr h => ?_)
  · obtain ⟨a, v, rfl, _⟩ := h
    rfl
  · obtain ⟨a, v, rfl, ha, k⟩ := h
    refine ⟨_, PSs.nox (pss_one (ps_ost (pv 0) (pv 1))), ?_⟩
    exact ⟨_, rfl, _, rfl, a, _, rfl, T.x_BadTask.oex, T.a_BadTask_index, .inl ⟨ha, fun d hd hn => k d hd hn⟩⟩
theorem ok_BadCounter_init (T : Txt K mg) : FnOk P w K mg base CX0 1 (He.fAd K ("BadCounter", some "__init__")) T.fd_BadCounter_init ["self", "index"] (spExI (He.ga K "BadCounter") "index") := by
  refine T.F_BadCounter_init.ok sc_BadCounter_init (fun vs H Q E h => ?_) (fun cdv A outer s H vs Q E hr h => ?_)
  · obtain ⟨a, v, rfl, _⟩ := h
    rfl
  · obtain ⟨a, v, rfl, ha, k⟩ := h
    refine ⟨_, PSs.nox (pss_one (ps_ost (pv 0) (pv 1))), ?_⟩
    exact ⟨_, rfl, _, rfl, a, _, rfl, T.x_BadCounter.oex, T.a_BadCounter_index, .inl ⟨ha, fun d hd hn => k d hd hn⟩⟩
theorem ok_BadLate_init (T : Txt K mg) : FnOk P w K mg base CX0 1 (He.fAd K ("BadLate", some "__init__")) T.fd_BadLate_init ["self", "late"] (spExI (He.ga K "BadLate") "late") := by
  refine T.F_BadLate_init.ok sc_BadLate_init (fun vs H Q E h => ?_) (fun cdv A outer s H vs Q E hr h => ?_)
  · obtain ⟨a, v, rfl, _⟩ := h
    rfl
  · obtain ⟨a, v, rfl, ha, k⟩ := h
    refine ⟨_, PSs.nox (pss_one (ps_ost (pv 0) (pv 1))), ?_⟩
    exact ⟨_, rfl, _, rfl, a, _, rfl, T.x_BadLate.oex, T.a_BadLate_late, .inl ⟨ha, fun d hd hn => k d hd hn⟩⟩
theorem ok_UnknownTask_init (T : Txt K mg) : FnOk P w K mg base CX0 1 (He.fAd K ("UnknownTask", some "__init__")) T.fd_UnknownTask_init ["self", "name"] (spExI (He.ga K "UnknownTask") "name") := by
  refine T.F_UnknownTask_init.ok sc_UnknownTask_init (fun vs H Q E h => ?_) (fun cdv A outer s H vs Q E hr h => ?_)
  · obtain ⟨a, v, rfl, _⟩ := h
    rfl
  · obtain ⟨a, v, rfl, ha, k⟩ := h
    refine ⟨_, PSs.nox (pss_one (ps_ost (pv 0) (pv 1))), ?_⟩
    exact ⟨_, rfl, _, rfl, a, _, rfl, T.x_UnknownTask.oex, T.a_UnknownTask_name, .inl ⟨ha, fun d hd hn => k d hd hn⟩⟩
theorem ok_BadPlace_init (T : Txt K mg) : FnOk P w K mg base CX0 1 (He.fAd K ("BadPlace", some "__init__")) T.fd_BadPlace_init ["self", "place"] (spExI (He.ga K "BadPlace") "place") := by
  refine T.F_BadPlace_init.ok sc_BadPlace_init (fun vs H Q E h => ?_) (fun cdv A outer s H vs Q E hr h => ?_)
  · obtain ⟨a, v, rfl, _⟩ := h
    rfl
  · obtain ⟨a, v, rfl, ha, k⟩ := h
    refine ⟨_, PSs.nox (pss_one (ps_ost (pv 0) (pv 1))), ?_⟩
    exact ⟨_, rfl, _, rfl, a, _, rfl, T.x_BadPlace.oex, T.a_BadPlace_place, .inl ⟨ha, fun d hd hn => k d hd hn⟩⟩
theorem ok_BadEvent_init (T : Txt K mg) : FnOk P w K mg base CX0 1 (He.fAd K ("BadEvent", some "__init__")) T.fd_BadEvent_init ["self", "index"] (spExI (He.ga K "BadEvent") "index") := by
  refine T.F_BadEvent_init.ok sc_BadEvent_init (fun vs H Q E h => ?_) (fun cdv A outer s H vs Q E hr h => ?_)
  · obtain ⟨a, v, rfl, _⟩ := h
    rfl
  · obtain ⟨a, v, rfl, ha, k⟩ := h
    refine ⟨_, PSs.nox (pss_one (ps_ost (pv 0) (pv 1))), ?_⟩
    exact ⟨_, rfl, _, rfl, a, _, rfl, T.x_BadEvent.oex, T.a_BadEvent_index, .inl ⟨ha, fun d hd hn => k d hd hn⟩⟩
theorem ok_BadShift_init (T : Txt K mg) : FnOk P w K mg base CX0 1 (He.fAd K ("BadShift", some "__init__")) T.fd_BadShift_init ["self", "shift"] (spExI (He.ga K "BadShift") "shift") := by
  refine T.F_BadShift_init.ok sc_BadShift_init (fun vs H Q E h => ?_) (fun cdv A outer s H vs Q E hr h => ?_)
  · obtain ⟨a, v, rfl, _⟩ := h
    rfl
  · obtain ⟨a, v, rfl, ha, k⟩ := h
    refine ⟨_, PSs.nox (pss_one (ps_ost (pv 0) (pv 1))), ?_⟩
    exact ⟨_, rfl, _, rfl, a, _, rfl, T.x_BadShift.oex, T.a_BadShift_shift, .inl ⟨ha, fun d hd hn => k d hd hn⟩⟩
theorem ok_BadWeights_init (T : Txt K mg) : FnOk P w K mg base CX0 1 (He.fAd K ("BadWeights", some "__init__")) T.fd_BadWeights_init ["self", "index"] (spExI (He.ga K "BadWeights") "index") := by
  refine T.F_BadWeights_init.ok sc_BadWeights_init (fun vs H Q E h => ?_) (fun cdv A outer s H vs Q E hr h => ?_)
  · obtain ⟨a, v, rfl, _⟩ := h
    rfl
  · obtain ⟨a, v, rfl, ha, k⟩ := h
    refine ⟨_, PSs.nox (pss_one (ps_ost (pv 0) (pv 1))), ?_⟩
    exact ⟨_, rfl, _, rfl, a, _, rfl, T.x_BadWeights.oex, T.a_BadWeights_index, .inl ⟨ha, fun d hd hn => k d hd hn⟩⟩
theorem ok_BadWord_init (T : Txt K mg) : FnOk P w K mg base CX0 1 (He.fAd K ("BadWord", some "__init__")) T.fd_BadWord_init ["self", "word"] (spExI (He.ga K "BadWord") "word") := by
  refine T.F_BadWord_init.ok sc_BadWord_init (fun vs H Q E h => ?_) (fun cdv A outer s H vs Q E hr h => ?_)
  · obtain ⟨a, v, rfl, _⟩ := h
    rfl
  · obtain ⟨a, v, rfl, ha, k⟩ := h
    refine ⟨_, PSs.nox (pss_one (ps_ost (pv 0) (pv 1))), ?_⟩
    exact ⟨_, rfl, _, rfl, a, _, rfl, T.x_BadWord.oex, T.a_BadWord_word, .inl ⟨ha, fun d hd hn => k d hd hn⟩⟩
/-- BadRow's own making: three fields -/
def spExR (C : Addr) : Sp := fun vs H Q _ => ∃ (a : Addr) (t p r : V), vs = [.ref a, t, p, r] ∧ H a = some (exo a C none) ∧ ∀ d, H d = none → d ≠ a → Q .non (upd (upd H d (exd d [("reason", r), ("place", p), ("task", t)])) a (exo a C (some d)))
theorem ok_BadRow_init (T : Txt K mg) : FnOk P w K mg base CX0 1 (He.fAd K ("BadRow", some "__init__")) T.fd_BadRow_init ["self", "task", "place", "reason"] (spExR (He.ga K "BadRow")) := by
  refine T.F_BadRow_init.ok sc_BadRow_init (fun vs H Q E h => ?_) (fun cdv A outer s H vs Q E hr h => ?_)
  · obtain ⟨a, t, p, r, rfl, _⟩ := h
    rfl
  · obtain ⟨a, t, p, r, rfl, ha, k⟩ := h
    refine ⟨_, PSs.nox (pss_cons (ps_ost (pv 0) (pv 1)) (pss_cons (ps_ost (pv 0) (pv 2)) (pss_one (ps_ost (pv 0) (pv 3))))), ?_⟩
    refine ⟨_, rfl, _, rfl, a, _, rfl, T.x_BadRow.oex, T.a_BadRow_task, .inl ⟨ha, fun d hd hn => ?_⟩⟩
    have e1 : ∀ o, upd (upd H d o) a (exo a (He.ga K "BadRow") (some d)) d = some o := fun o => by rw [upd_ne hn, upd_same]
    have e2 : ∀ o o' : HO, upd (upd (upd H d o) a (exo a (He.ga K "BadRow") (some d))) d o' = upd (upd H d o') a (exo a (He.ga K "BadRow") (some d)) := fun o o' => by
      funext b
      by_cases hb : b = d
      · subst hb
        rw [upd_same, upd_ne hn, upd_same]
      · rw [upd_ne hb]
        by_cases hc : b = a
        · subst hc
          rw [upd_same, upd_same]
        · rw [upd_ne hc, upd_ne hc, upd_ne hb, upd_ne hb]
    refine ⟨_, rfl, _, rfl, a, _, rfl, T.x_BadRow.oex, T.a_BadRow_place, .inr ⟨d, _, upd_same, e1 _, by simp, ?_⟩⟩
    rw [e2]
    refine ⟨_, rfl, _, rfl, a, _, rfl, T.x_BadRow.oex, T.a_BadRow_reason, .inr ⟨d, _, upd_same, e1 _, by simp, ?_⟩⟩
    rw [e2]
    exact k d hd hn
/-- an error with no attribute, of LoopError's own making -/
def spEx0 (K : PySem.W.Frag) : Sp := fun vs H Q _ => ∃ (a C : Addr), vs = [.ref a] ∧ OexC K C ∧ H a = some (exo a C none) ∧ Q .non H
theorem ok_LoopError_init (T : Txt K mg) : FnOk P w K mg base CX0 1 (He.fAd K ("LoopError", some "__init__")) T.fd_LoopError_init ["self"] (spEx0 K) := by
  refine T.F_LoopError_init.ok sc_LoopError_init (fun vs H Q E h => ?_) (fun cdv A outer s H vs Q E hr h => ?_)
  · obtain ⟨a, C, rfl, _⟩ := h
    rfl
  · obtain ⟨a, C, rfl, hC, ha, k⟩ := h
    refine ⟨_, PSs.nox (pss_one (ps_expr (pe_veinit rfl T.n_ValueError T.vV (pa_cons (pv 0) pa_nil)))), ?_⟩
    exact ⟨_, rfl, a, C, [], rfl, by simp, hC, ha, k⟩
end

end
section
local macro_rules | `(tactic| walk_at "subl") => `(tactic| first | with_reducible exact List.nil_sublist _ | with_reducible exact List.Sublist.refl _ | (with_reducible refine List.Sublist.cons₂ _ ?_; walk_at "subl") | (with_reducible refine List.Sublist.cons _ ?_; walk_at "subl"))
local macro_rules | `(tactic| walk_at "k") => `(tactic| try dsimp only [L2.cxOf, L2.Cx.nox, L2.Cx.wish, L2.Cx.blk])
local macro_rules | `(tactic| walk_at "ask") => `(tactic| fail)
local macro_rules | `(tactic| walk_at "mem") => `(tactic| first | with_reducible exact List.mem_cons_self | (with_reducible apply List.mem_cons_of_mem; walk_at "mem"))
local macro_rules | `(tactic| walk_at "put") => `(tactic| first | with_reducible exact Lt.Put.head | (with_reducible apply Lt.Put.tail; walk_at "put"))
local macro_rules | `(tactic| walk_at "own") => `(tactic| first | exact Or.inr (by assumption) | exact Or.inl (by walk_at "mem"))
local macro_rules | `(tactic| walk_at "cnd") => `(tactic| first | assumption | decide | ((try dsimp only); omega) | (unfold CMul; omega) | (unfold CDiv; omega) | (unfold CPow; omega) | exact Or.inr (by decide) | exact Or.inl (by decide) | exact wide_div (b := 128) (by omega) (by omega) (by decide) (by decide))
local macro_rules | `(tactic| walk_at "at") => `(tactic| first | exact rfl | assumption)
local macro_rules | `(tactic| walk_at "kit") => `(tactic| first | assumption | exact kit_int_int | exact kit_int_bool | exact kit_int_str | exact kit_int_list | exact kit_int_tuple | exact kit_int_dict | exact kit_bool_int | exact kit_bool_bool | exact kit_bool_str | exact kit_bool_list | exact kit_bool_tuple | exact kit_bool_dict | exact kit_str_int | exact kit_str_bool | exact kit_str_str | exact kit_str_list | exact kit_str_tuple | exact kit_str_dict | exact kit_list_int | exact kit_list_bool | exact kit_list_str | exact kit_list_list | exact kit_list_tuple | exact kit_list_dict | exact kit_tuple_int | exact kit_tuple_bool | exact kit_tuple_str | exact kit_tuple_list | exact kit_tuple_tuple | exact kit_tuple_dict | exact kit_dict_int | exact kit_dict_bool | exact kit_dict_str | exact kit_dict_list | exact kit_dict_tuple | exact kit_dict_dict | exact kit_NoneType_int | exact kit_NoneType_bool | exact kit_NoneType_str | exact kit_NoneType_list | exact kit_NoneType_tuple | exact kit_NoneType_dict)
local macro_rules | `(tactic| walk_at "kitA") => `(tactic| first | assumption | exact kitA_lt_int | exact kitA_lt_bool | exact kitA_lt_str | exact kitA_lt_list | exact kitA_lt_tuple | exact kitA_lt_dict | exact kitA_lt_NoneType | exact kitA_bilt_int | exact kitA_bilt_bool | exact kitA_bilt_str | exact kitA_bilt_list | exact kitA_bilt_tuple | exact kitA_bilt_dict | exact kitA_bilt_NoneType)
local macro_rules | `(tactic| walk_at "ty") => `(tactic| first | exact .base (.int _) | exact .base (.bl _) | exact .base (.str _) | exact .base .non | exact .base (.lst (Stt.get (by assumption) (by walk_at "mem"))) | exact .base (.tup (Stt.get (by assumption) (by walk_at "mem"))) | exact .base (.dK (Stt.get (by assumption) (by walk_at "mem"))) | exact sqL_ty (Stt.upL (by assumption) (by assumption)) | exact sqT_ty (Stt.upT (by assumption) (by assumption)) | exact InsT.ty (by assumption) (Stt.get (by assumption) (by walk_at "mem")) | assumption)
local macro_rules | `(tactic| walk_at "rd1") => `(tactic| first
  | with_reducible refine' Rd.seq ?_
  | with_reducible refine' Rd.asg ?_
  | ((with_reducible refine' Rd.var ?vh ?_); (case vh => exact rfl))
  | with_reducible refine' Rd.con ?_
  | with_reducible refine' Rd.op ?_
  | with_reducible refine' Rd.i0 ?_
  | ((with_reducible refine' Rd.ic ?vh ?_); (case vh => walk_at "cnd"))
  | ((with_reducible refine' Rd.ixL ?v1 ?v2 ?v3 ?_); (case v1 => assumption); (case v2 => walk_at "mem"); (case v3 => walk_at "at"))
  | ((with_reducible refine' Rd.ixT ?v1 ?v2 ?v3 ?_); (case v1 => assumption); (case v2 => walk_at "mem"); (case v3 => walk_at "at"))
  | ((with_reducible refine' Rd.ixD2 ?v1 ?v2 ?_); (case v1 => assumption); (case v2 => walk_at "mem"); intro _)
  | ((with_reducible refine' Rd.ixD3 ?v1 ?v2 ?_); (case v1 => assumption); (case v2 => walk_at "mem"); intro _)
  | ((with_reducible refine' Rd.setD2 ?v1 ?v2 ?v3 ?v4 ?_); (case v1 => assumption); (case v2 => walk_at "mem"); (case v3 => walk_at "put"); (case v4 => walk_at "own"); intro _ _)
  | ((with_reducible refine' Rd.isi ?v1 ?v2 ?v3 ?_); (case v1 => walk_at "ty"); (case v2 => first | exact ClsV.ty _ | exact ClsV.own _); (case v3 => walk_at "kit"))
  | with_reducible refine' Rd.fld ?_
  | ((with_reducible refine' Rd.fldI ?v1 ?v2 ?v3 ?v4 ?v5 ?_); (case v1 => assumption); (case v2 => walk_at "mem"); (case v3 => assumption); (case v4 => assumption); (case v5 => walk_at "at"))
  | with_reducible refine' Rd.sfld ?_
  | ((with_reducible refine' Rd.sfldI ?v1 ?v2 ?v3 ?v4 ?v5 ?v6 ?v7 ?_); (case v1 => assumption); (case v2 => walk_at "mem"); (case v3 => assumption); (case v4 => assumption); (case v5 => first | decide | (refine Nat.lt_of_le_of_lt (putF_len _ _ _) ?_; decide)); (case v6 => walk_at "put"); (case v7 => walk_at "own"); intro _ _)
  | with_reducible refine' Rd.make ?_
  | with_reducible refine' Rd.gcd ?_
  | with_reducible refine' Rd.cons ?_
  | with_reducible refine' Rd.nil ?_
  | with_reducible refine' Rd.cb ?_
  | with_reducible refine' Rd.intI ?_
  | with_reducible refine' Rd.absI ?_
  | ((with_reducible refine' Rd.lenL ?v1 ?v2 ?_); (case v1 => assumption); (case v2 => walk_at "mem"))
  | ((with_reducible refine' Rd.lenT ?v1 ?v2 ?_); (case v1 => assumption); (case v2 => walk_at "mem"))
  | ((with_reducible refine' Rd.lenBL ?v1 ?v2 ?v3 ?_); (case v1 => assumption); (case v2 => assumption); (case v3 => first | exact List.not_mem_nil | assumption))
  | ((with_reducible refine' Rd.lenBT ?v1 ?v2 ?v3 ?_); (case v1 => assumption); (case v2 => assumption); (case v3 => first | exact List.not_mem_nil | assumption))
  | ((with_reducible refine' Rd.ixBL ?v1 ?v2 ?v4 ?v3 ?_); (case v1 => assumption); (case v2 => assumption); (case v4 => first | exact List.not_mem_nil | assumption); (case v3 => walk_at "at"))
  | ((with_reducible refine' Rd.ixBT ?v1 ?v2 ?v4 ?v3 ?_); (case v1 => assumption); (case v2 => assumption); (case v4 => first | exact List.not_mem_nil | assumption); (case v3 => walk_at "at"))
  | ((with_reducible refine' Rd.brI ?vh ?_); (case vh => with_reducible exact rfl))
  | with_reducible refine' Rd.ifS ?_
  | with_reducible refine' Rd.test ?_
  | with_reducible refine' Rd.tbl ?_
  | with_reducible refine' Rd.bl ?_
  | with_reducible refine' Rd.brTT ?_
  | with_reducible refine' Rd.brFF ?_
  | with_reducible refine' Rd.brN ?_
  | ((with_reducible refine' Rd.aug ?vh ?_); (case vh => exact rfl))
  | with_reducible refine' Rd.ipI ?_
  | with_reducible refine' Rd.blV ?_
  | with_reducible refine' Rd.notVL ?_
  | with_reducible refine' Rd.andT ?_
  | with_reducible refine' Rd.orT ?_
  | with_reducible refine' Rd.notT ?_
  | with_reducible refine' Rd.andV ?_
  | with_reducible refine' Rd.orV ?_
  | with_reducible refine' Rd.notV ?_
  | with_reducible refine' Rd.ifE ?_
  | ((with_reducible refine' Rd.eqS ?vh ?_); (case vh => exact rfl))
  | ((with_reducible refine' Rd.neS ?vh ?_); (case vh => exact rfl))
  | with_reducible refine' Rd.par ?_
  | with_reducible refine' Rd.parL ?_
  | with_reducible refine' Rd.un ?_
  | with_reducible refine' Rd.u1 ?_
  | with_reducible refine' Rd.sub ?_
  | ((with_reducible refine' Rd.setL ?v1 ?v2 ?v3 ?v4 ?v5 ?_); (case v1 => assumption); (case v2 => walk_at "mem"); (case v3 => walk_at "at"); (case v4 => walk_at "put"); (case v5 => walk_at "own"); intro _ _)
  | with_reducible refine' Rd.tup ?_
  | with_reducible refine' Rd.lst ?_
  | ((with_reducible refine' Rd.tupN ?v1 ?v2 ?_); (case v1 => assumption); (case v2 => simp only [List.length_cons, List.length_nil]; decide); intro _ _ _ _)
  | ((with_reducible refine' Rd.lstN ?v1 ?v2 ?_); (case v1 => assumption); (case v2 => simp only [List.length_cons, List.length_nil]; decide); intro _ _ _ _)
  | with_reducible refine' Rd.ret ?_
  | with_reducible refine' Rd.drop ?_
  | with_reducible refine' Rd.retN ?_
  | with_reducible refine' Rd.next ?_
  | with_reducible refine' Rd.brk ?_
  | with_reducible refine' Rd.cont ?_
  | with_reducible refine' Rd.call ?_
  | walk_at "ask"
  | with_reducible refine' Rd.bm ?_
  | ((with_reducible refine' Rd.bmL ?v1 ?v2 ?_); (case v1 => assumption); (case v2 => walk_at "mem"))
  | ((with_reducible refine' Rd.app ?v1 ?v2 ?v3 ?v4 ?v5 ?_); (case v1 => assumption); (case v2 => walk_at "mem"); (case v3 => simp only [List.length_cons, List.length_nil, List.length_append]; omega); (case v4 => walk_at "put"); (case v5 => walk_at "own"); intro _ _)
  | with_reducible refine' Rd.asgT ?_
  | ((with_reducible refine' Rd.gtup ?v1 ?v2 ?v3 ?_); (case v1 => assumption); (case v2 => walk_at "mem"); (case v3 => exact rfl))
  | with_reducible refine' Rd.gcons ?_
  | with_reducible refine' Rd.gname ?_
  | with_reducible refine' Rd.gnil ?_
  | with_reducible refine' Rd.sl ?_
  | with_reducible refine' Rd.noPart ?_
  | with_reducible refine' Rd.part ?_
  | with_reducible refine' Rd.prt ?_
  | with_reducible refine' Rd.isB ?_
  | ((with_reducible refine' Rd.wp ?vh ?_); (case vh => exact rfl))
  | with_reducible refine' Rd.makeK ?_
  | with_reducible refine' Rd.meth ?_
  | ((with_reducible refine' Rd.catL ?v1 ?v2 ?v3 ?v4 ?_); (case v1 => assumption); (case v2 => walk_at "mem"); (case v3 => walk_at "mem"); (case v4 => simp only [List.length_cons, List.length_nil, List.length_append]; omega); intro _ _ _ _)
  | with_reducible refine' Rd.dnew ?_
  | ((with_reducible refine' Rd.dnewL ?v1 ?_); (case v1 => assumption); intro _ _ _ _)
  | with_reducible refine' Rd.lc ?_
  | with_reducible refine' Rd.wZ ?_
  | with_reducible refine' Rd.tYesH ?_
  | with_reducible refine' Rd.fmt ?_
  | with_reducible refine' Rd.joined ?_
  | with_reducible refine' Rd.jsNil ?_
  | with_reducible refine' Rd.jsCons ?_
  | ((with_reducible refine' Rd.isiT ?v1 ?v2 ?v3 ?v4 ?v5 ?_); (case v1 => assumption); (case v2 => walk_at "mem"); (case v3 => walk_at "ty"); (case v4 => first | exact .cons (.ty _) (.cons (.ty _) .nil) | exact .cons (.ty _) (.cons (.ty _) (.cons (.ty _) (.cons (.ty _) .nil))) | exact .cons (.ty _) (.cons (.ty _) (.cons (.ty _) .nil))); (case v5 => walk_at "kitA"))
  | with_reducible refine' Rd.forS ?_
  | with_reducible refine' Rd.wEnT ?_
  | ((with_reducible refine' Rd.wEnTL ?v1 ?v2 ?_); (case v1 => assumption); (case v2 => walk_at "mem"))
  | with_reducible refine' Rd.wL ?_
  | ((with_reducible refine' Rd.wLL ?v1 ?v2 ?_); (case v1 => assumption); (case v2 => walk_at "mem"))
  | with_reducible refine' Rd.wT ?_
  | ((with_reducible refine' Rd.wTL ?v1 ?v2 ?_); (case v1 => assumption); (case v2 => walk_at "mem"))
  | with_reducible refine' Rd.wR1 ?_
  | ((with_reducible refine' Rd.wR1L ?v1 ?v2 ?_); (case v1 => omega); (case v2 => omega))
  | with_reducible refine' Rd.wR2 ?_
  | ((with_reducible refine' Rd.wR2L ?v1 ?_); (case v1 => omega)))
local macro_rules | `(tactic| walk_at "rd") => `(tactic| repeat (walk_at "rd1"))

section
variable {P : Program} {w : World} {K : PySem.W.Frag} {mg : Str → Option Value} {base : Heap}
/-! ### a comprehension whose promise speaks of the objects -/
def PvH (H0 : Hp) (S : List Addr) (l : Led) (Good : Addr → Nat → List V → Hp → Prop) (D : Addr) (i : Nat) (H : Hp) : Prop := ∃ acc, Good D i acc H ∧ acc.length ≤ i ∧ Stt H0 S ((D, Is (.lst acc)) :: l) H
def LcH (H0 : Hp) (S : List Addr) (l : Led) (Good : Addr → Nat → List V → Hp → Prop) (D : Addr) (i : Nat) (y : V) (H4 : Hp) : Prop := ∃ acc, H4 D = some (.lst acc) ∧ acc.length < sizeLine ∧ PvH H0 S l Good D (i + 1) (upd H4 D (.lst (acc ++ [y])))
theorem lcHE {H0 H : Hp} {S : List Addr} {l : Led} {y : V} {Good : Addr → Nat → List V → Hp → Prop} {D : Addr} {i : Nat} {acc : List V} (st : Stt H0 S ((D, Is (.lst acc)) :: l) H) (hD : H0 D = none) (hi : i < 100000) (ha : acc.length ≤ i) (g : Good D (i + 1) (acc ++ [y]) (upd H D (.lst (acc ++ [y])))) : LcH H0 S l Good D i y H :=
  ⟨acc, st.get List.mem_cons_self, Nat.lt_of_le_of_lt ha (Nat.lt_trans hi (by decide)), acc ++ [y], g, by simp; omega, st.set .head (.inr hD)⟩
theorem lcH {H0 H : Hp} {S : List Addr} {l : Led} {σ : L2.St} {Q : VK} {J : It} {n : Nat} {G : Hp → Prop} {Y : Nat → Hp → V → Hp → Prop} (w : Walk J n G Y) {g : TG} {tt : TT} {te : TE} {vs : List Nat} (st : Stt H0 S l H) (Good : Addr → Nat → List V → Hp → Prop) (g0 : ∀ D, H D = none → Good D 0 [] (upd H D (.lst [])))
    (hG : ∀ H' D acc, H0 D = none → Stt H0 S ((D, Is (.lst acc)) :: l) H' → G H')
    (hs : ∀ D, H0 D = none → ∀ i x H1 H2 acc, i < n → Good D i acc H1 → acc.length ≤ i → Stt H0 S ((D, Is (.lst acc)) :: l) H1 → Y i H1 x H2 → g x (wipe σ vs) H2 fun σ2 H2 => wipe σ2 vs = wipe σ vs ∧ tt σ2 H2 fun b H3 =>
      Rd.Br b (te σ2 H3 fun y H4 => LcH H0 S l Good D i y H4) (PvH H0 S l Good D (i + 1) H3))
    (hd : ∀ D H1 acc, H D = none → H0 D = none → acc.length ≤ n → Good D n acc H1 → Stt H0 S ((D, Is (.lst acc)) :: l) H1 → Q (.ref D) H1) : Rd.Lc J g tt te vs σ H Q := by
  intro D hD
  have hD0 := st.none hD
  refine lc_it w (PvH H0 S l Good D) ⟨[], g0 D hD, Nat.le_refl _, st.new hD _⟩ (fun i H' _ p => ?_) ?_ ?_
  · obtain ⟨acc, _, _, q⟩ := p
    exact hG H' D acc hD0 q
  · rintro i x H1 H2 hi ⟨acc, gd, ha, q⟩ y
    exact hs D hD0 i x H1 H2 acc hi gd ha q y
  · rintro H1 ⟨acc, gd, ha, q⟩
    exact hd D H1 acc hD hD0 ha gd q
theorem pick_ask {H0 H : Hp} {S : List Addr} {l : Led} {p : Addr} {xs : List V} {j : Nat} {Q : VK} (st : Stt H0 S l H) (m : (p, Is (.lst xs)) ∈ l) (hj : j < xs.length) (h : ∀ v, v ∈ xs → xs[j]? = some v → Q v H) : rIxL K (.ref p) (.int (j : Int)) H Q := by
  have e : xs[j]? = some xs[j] := List.getElem?_eq_getElem hj
  exact Rd.ixL st m (atI_nat e) (h _ (List.getElem_mem hj) e)
/-- a dict of one text key -/
theorem disp1 {σ : L2.St} {H : Hp} {Q : VK} {z : Str} {i : Nat} {v : V} (e : σ[i]? = some (some v)) (h : ∀ p, H p = none → Q (.ref p) (upd H p (.dK [(.inr z, v)]))) : tDisp [(tC (.str z), tVar i)] σ H Q := by
  intro p hp
  refine ⟨v, e, upd_same, [(.inr z, v)], rfl, Nat.le_of_ble_eq_true rfl, ?_⟩
  rw [upd_upd]
  exact h p hp
def scl : V → Bool
  | .non => true
  | .bl _ => true
  | .int _ => true
  | .str _ => true
  | _ => false
theorem sm_scl {G : Hp} {n : Nat} {v : V} (h : scl v = true) : Sm G n v v := by
  cases v with
  | non => exact .non n
  | bl b => exact .bl n b
  | int i => exact .int n i
  | str z => exact .str n z
  | _ => cases h
/-- G is made of what is new in H' over H, without p -/
def Fr (G H H' : Hp) (p : Addr) : Prop := ∀ b o, G b = some o → H b = none ∧ b ≠ p ∧ H' b = some o
theorem sm_lst {G : Hp} {n : Nat} {p : Addr} {xs : List V} (h : G p = some (.lst xs)) (hl : xs.length ≤ 1000) (r : ∀ x ∈ xs, Sm G n x x) : Sm G (n + 1) (.ref p) (.ref p) :=
  .lst h h rfl hl fun i x y e1 e2 => by
    cases e1.symm.trans e2
    exact r x (List.mem_of_getElem? e1)
theorem sm_tup {G : Hp} {n : Nat} {p : Addr} {xs : List V} (h : G p = some (.tup xs)) (hl : xs.length ≤ 1000) (r : ∀ x ∈ xs, Sm G n x x) : Sm G (n + 1) (.ref p) (.ref p) :=
  .tup h h rfl hl fun i x y e1 e2 => by
    cases e1.symm.trans e2
    exact r x (List.mem_of_getElem? e1)
/-- an object that was made between H and H', at most d deep -/
inductive Lv (H H' : Hp) : Nat → V → Prop where
  | scl {d : Nat} {v : V} (h : scl v = true) : Lv H H' d v
  | lst {n : Nat} {p : Addr} {xs : List V} (hp : H p = none) (e : H' p = some (.lst xs)) (hl : xs.length ≤ 3) (r : ∀ x ∈ xs, ∃ G, Fr G H H' p ∧ Sm G n x x) : Lv H H' (n + 1) (.ref p)
  | tup {n : Nat} {p : Addr} {xs : List V} (hp : H p = none) (e : H' p = some (.tup xs)) (hl : xs.length ≤ 3) (r : ∀ x ∈ xs, ∃ G, Fr G H H' p ∧ Sm G n x x) : Lv H H' (n + 1) (.ref p)
  | dct {n : Nat} {p : Addr} {z : Str} {q : Addr} (hp : H p = none) (e : H' p = some (.dK [(.inr z, .ref q)])) : Lv H H' (n + 1) (.ref p)
/-- what is new in H' over H -/
def Nw (H H' : Hp) : Hp := fun b => match H b with
  | none => H' b
  | some _ => none
theorem nw_of {H H' : Hp} {b : Addr} {o : HO} (h : H b = none) (h' : H' b = some o) : Nw H H' b = some o := by
  unfold Nw
  rw [h]
  exact h'
theorem nw_to {H H' : Hp} {b : Addr} {o : HO} (h : Nw H H' b = some o) : H b = none ∧ H' b = some o := by
  unfold Nw at h
  split at h
  · exact ⟨by assumption, h⟩
  · cases h
theorem Lv.sm {H H' : Hp} {d : Nat} {v : V} (h : Lv H H' d v) : Sm (Nw H H') d v v := by
  have k : ∀ {G p}, Fr G H H' p → ∀ b o, G b = some o → Nw H H' b = some o := fun f b o e => nw_of (f b o e).1 (f b o e).2.2
  cases h with
  | scl h => exact sm_scl h
  | lst hp e hl r =>
    refine sm_lst (nw_of hp e) (by omega) fun x m => ?_
    obtain ⟨G, f, s⟩ := r x m
    exact s.mono (k f)
  | tup hp e hl r =>
    refine sm_tup (nw_of hp e) (by omega) fun x m => ?_
    obtain ⟨G, f, s⟩ := r x m
    exact s.mono (k f)
  | dct hp e => exact .dct _ (nw_of hp e) (by simp) (by simp [flatR])
/-- any object, at most n deep -/
def spAny (n : Nat) : Sp := fun vs H Q _ => ∃ (st c : Addr) (ns : List Int), vs = [.ref st, .int (n : Int)] ∧ Stt H [st] (dled st c ns) H ∧ ns.length ≤ 63 ∧ ∀ v H', Lv H H' n v → Stt H [st] (dled st c ns) H' → Q v H'
local macro_rules | `(tactic| walk_at "ask") => `(tactic| first
  | ((with_reducible refine' take_ask ?v1 ?v2 ?v3 ?v4 ?v5 ?v6 ?_); (case v1 => assumption); (case v2 => walk_at "mem"); (case v3 => walk_at "mem"); (case v4 => assumption); (case v5 => walk_at "own"); (case v6 => first | decide | omega); intro _ _ _ _)
  | ((with_reducible refine' one_ask ?v1 ?v2 ?v3 ?v4 ?v5 ?_); (case v1 => assumption); (case v2 => walk_at "subl"); (case v3 => assumption); (case v4 => walk_at "own"); (case v5 => decide); intro _ _ _ _)
  | ((with_reducible refine' disp1 ?v1 ?_); (case v1 => exact rfl); intro _ _))
theorem any_body (T : Txt K mg) (n k : Nat) (hk : k ≤ 60) (hk3 : 3 ≤ k) (sp0 : Sp) (F0 : FnOk P w K mg base CX0 k (He.fAd K ("_law_any", none)) T.fd_l_any ["_law_state", "_law_deep"] sp0)
    (h0 : ∀ vs H Q E, (∃ m, m + 1 = n ∧ spAny m vs H Q E) → sp0 vs H Q E) : FnOk P w K mg base CX0 (k + 1) (He.fAd K ("_law_any", none)) T.fd_l_any ["_law_state", "_law_deep"] (spAny n) := by
  refine T.F_l_any.ok sc_l_any (fun vs H Q E h => ?_) (fun cdv A outer s H vs Q E hr h => ?_)
  · obtain ⟨st, c, ns, rfl, _⟩ := h
    rfl
  · obtain ⟨st, c, ns, rfl, s0, hl, q⟩ := h
    refine ⟨_, PSs.nox (C8.pss_cut (ps_asg (pe_call (ok_l_take T) (hr.mono (by omega)) rfl T.g_l_take T.F_l_take.kp T.b_l_take .nil pass0 (pa_cons (pv 0) (pa_cons (pe_ifExp (pt_cmpR op_gt (pv 1) pe_int (nomark _)) pe_int pe_int) pa_nil))) (pg_name (i := 2) sc_l_any.nd rfl (by first | exact Or.inl rfl | exact Or.inr rfl)))
  (pss_cons (ps_if (pt_cmpR op_lt (pv 2) pe_int (nomark _)) (pss_one (ps_ret (pe_ix ix_list (pe_lst (pa_cons (pe_call (ok_l_take T) (hr.mono (by omega)) rfl T.g_l_take T.F_l_take.kp T.b_l_take .nil pass0 (pa_cons (pv 0) (pa_cons (pe_op op_pow pe_int pe_int) pa_nil))) (pa_cons pe_bl (pa_cons pe_non (pa_cons (pe_call (ok_l_one T) (hr.mono (by omega)) rfl T.g_l_one T.F_l_one.kp T.b_l_one .nil pass0 (pa_cons (pv 0) (pa_cons (pe_lst (pa_cons pe_str (pa_cons pe_str (pa_cons pe_str (pa_cons pe_str pa_nil))))) pa_nil))) (pa_cons (pe_un un_neg pe_int) pa_nil)))))) (pv 2) (fun _ _ => rfl))))
   pss_nil)
  (pss_cons (ps_setLc (i := 3) (own := [("_law_k", 4)]) (g := gName 4) (tt := tYes) (by rfl) sc_l_any.nd rfl rfl (sw_true rfl rfl rfl (by decide +kernel)) (pi_range1 rfl T.n_range (pa_cons (pe_call (ok_l_take T) (hr.mono (by omega)) rfl T.g_l_take T.F_l_take.kp T.b_l_take .nil pass0 (pa_cons (pv 0) (pa_cons pe_int pa_nil))) pa_nil)) (blkOk_by (own := [("_law_k", 4)]) (N := ["_law_state", "_law_deep", "_law_way", "_law_inner", "_law_k"]) (sc := defScope s_l_any) (by decide +kernel)) (fun _ _ _ _ _ => (pg_name (i := 4) sc_l_any.nd rfl (by first | exact Or.inl rfl | exact Or.inr rfl))) (fun _ _ _ _ _ => pts_nil) (fun _ _ _ _ _ => (pe_call F0 (hr.mono (by omega)) rfl T.g_l_any T.F_l_any.kp T.b_l_any .nil pass0 (pa_cons (pv 0) (pa_cons (pe_op op_sub (pv 1) pe_int) pa_nil)))))
  (pss_one (ps_ret (pe_ix ix_list (pe_lst (pa_cons (pv 3) (pa_cons (pe_callTy call_tuple_of (by rfl) T.n_tuple (by decide +kernel) (pa_cons (pv 3) pa_nil)) (pa_cons (pe_disp (pps_cons pe_str (pv 3) pps_nil) rfl rfl (by simp) (by decide)) pa_nil)))) (pe_op op_sub (pv 2) pe_int) (fun _ _ => rfl))))))), ?_⟩
    walk_at "k"
    walk_at "rd"
    refine Rd.cut (fun σ' H' => ∃ d : Int, σ' = [some (.ref st), some (.int (n : Int)), some (.int d), none, none] ∧ 0 ≤ d ∧ (d < 5 ∨ d < 8 ∧ 0 < n) ∧ Stt H [st] (dled st c ns) H') ?_ ?_
    · walk_at "rd"
      refine Rd.brD (fun c1 => ?_) (fun c1 => ?_)
      · walk_at "rd"
        rename_i d H1 hd s1
        exact ⟨d, rfl, hd.1, .inr ⟨hd.2, by omega⟩, s1⟩
      · walk_at "rd"
        rename_i d H1 hd s1
        exact ⟨d, rfl, hd.1, .inl hd.2, s1⟩
    · rintro σ' H1 ⟨d, rfl, hd0, hd, s1⟩
      have hst : H st ≠ none := fun e => by
        obtain ⟨o, ho, _⟩ := s0.pick (show (st, DrS c) ∈ dled st c ns from List.mem_cons_self)
        cases e.symm.trans ho
      clear s0
      walk_at "rd"
      refine Rd.brD (fun c1 => ?_) (fun c1 => ?_)
      · walk_at "rd"
        rename_i d1 H2 hd1 s2 p1 H3 hp1 s3 v H4 hv s4 p2 H5 hp2 s5
        obtain ⟨j, rfl⟩ := Int.eq_ofNat_of_zero_le hd0
        refine pick_ask s5 (by walk_at "mem") (by simp; omega) (fun x hx _ => ?_)
        refine q _ _ (.scl ?_) (s5.sub (by walk_at "subl"))
        have hv2 : scl v = true := by
          simp only [List.mem_cons, List.not_mem_nil, or_false] at hv
          rcases hv with rfl | rfl | rfl | rfl <;> rfl
        simp only [List.mem_cons, List.not_mem_nil, or_false] at hx
        rcases hx with rfl | rfl | rfl | rfl | rfl
        · rfl
        · rfl
        · rfl
        · exact hv2
        · rfl
      · walk_at "rd"
        rename_i d1 H2 hd1 s2
        obtain ⟨m, rfl⟩ : ∃ m, n = m + 1 := ⟨n - 1, by omega⟩
        refine lcH (walk_range (lo := 0) (n := d1.toNat)) s2 (fun D i acc H' => ∀ v ∈ acc, ∃ G, Fr G H H' D ∧ Sm G m v v) (fun _ _ v hv => nomatch hv) (fun _ _ _ _ _ => trivial) ?_ ?_
        · rintro D hD i x H3 H4 acc hi gd hac s3 ⟨rfl, rfl⟩
          walk_at "rd"
          have e : ((m + 1 : Nat) : Int) - 1 = (m : Int) := by omega
          rw [e]
          refine h0 _ _ _ _ ⟨m, rfl, st, c, ns, rfl, s3.base (by walk_at "subl"), hl, fun y H5 ly s5 => ?_⟩
          have s6 := s3.after1 (f := DrS c) (by walk_at "mem") s5.keep (.inl List.mem_cons_self) (s5.pick (by walk_at "mem"))
          refine lcHE s6 hD (by omega) hac fun v hv => ?_
          rcases List.mem_append.mp hv with hv | hv
          · obtain ⟨G, f, z⟩ := gd v hv
            refine ⟨G, fun b o e => ?_, z⟩
            obtain ⟨f1, f2, f3⟩ := f b o e
            refine ⟨f1, f2, ?_⟩
            rw [upd_ne f2]
            exact s5.keep.get (by simp; rintro rfl; exact hst f1) f3
          · cases List.mem_singleton.mp hv
            refine ⟨_, fun b o e => ?_, ly.sm⟩
            obtain ⟨f1, f2⟩ := nw_to e
            have hbD : b ≠ D := fun eb => by
              rw [eb, s3.get List.mem_cons_self] at f1
              cases f1
            refine ⟨s3.none f1, hbD, ?_⟩
            rw [upd_ne hbD]
            exact f2
        · intro D H3 acc hD2 hD hac gd s3
          walk_at "rd"
          have s3b : Stt H3 [] ((D, Is (.lst acc)) :: dled st c ns) H3 := s3.base (List.Sublist.refl _)
          refine ⟨D, acc, rfl, .inl ⟨s3.sqL (by walk_at "mem"), fun t ht => ?_⟩⟩
          have s4 := s3b.new ht (.tup acc)
          walk_at "rd"
          rename_i p hp
          have s5 := s4.new hp (.dK [(.inr "inner", .ref D)])
          walk_at "rd"
          rename_i r H6 hr6 s6
          obtain ⟨j, hj⟩ := Int.eq_ofNat_of_zero_le (show 0 ≤ d - 5 by omega)
          rw [hj]
          have hacc : acc.length ≤ 3 := by omega
          have s7 : Stt H [st] (dled st c ns) H6 := (s3.after0 s6.keep).sub (by walk_at "subl")
          have fk : ∀ {G a}, Fr G H H3 D → (H3 a = none ∨ a = D) → Fr G H H6 a := fun {G a} f ha b o e => by
            obtain ⟨f1, f2, f3⟩ := f b o e
            refine ⟨f1, ?_, s6.keep.get List.not_mem_nil f3⟩
            rintro rfl
            rcases ha with ha | ha
            · cases ha.symm.trans f3
            · exact f2 ha
          refine pick_ask s6 (by walk_at "mem") (by simp; omega) (fun x hx _ => ?_)
          refine q _ _ ?_ s7
          simp only [List.mem_cons, List.not_mem_nil, or_false] at hx
          rcases hx with rfl | rfl | rfl
          · exact .lst hD (s6.get (by walk_at "mem")) hacc fun x hx => by
              obtain ⟨G, f, z⟩ := gd x hx
              exact ⟨G, fk f (.inr rfl), z⟩
          · exact .tup (s3.none ht) (s6.get (by walk_at "mem")) hacc fun x hx => by
              obtain ⟨G, f, z⟩ := gd x hx
              exact ⟨G, fk f (.inl ht), z⟩
          · exact .dct (s3.none (s3b.none (s4.none hp))) (s6.get (by walk_at "mem"))
theorem ok_l_any (T : Txt K mg) : ∀ n, n ≤ 50 → FnOk P w K mg base CX0 (n + 4) (He.fAd K ("_law_any", none)) T.fd_l_any ["_law_state", "_law_deep"] (spAny n)
  | 0, _ => any_body T 0 3 (by omega) (by omega) _ fnok_false fun vs H Q E ⟨m, h, _⟩ => by omega
  | n + 1, hn => any_body T (n + 1) (n + 4) (by omega) (by omega) _ (ok_l_any T n (by omega)) fun vs H Q E ⟨m, h1, h2⟩ => by
    cases h1
    exact h2
end

end
section
local macro_rules | `(tactic| walk_at "subl") => `(tactic| first | with_reducible exact List.nil_sublist _ | with_reducible exact List.Sublist.refl _ | (with_reducible refine List.Sublist.cons₂ _ ?_; walk_at "subl") | (with_reducible refine List.Sublist.cons _ ?_; walk_at "subl"))
local macro_rules | `(tactic| walk_at "k") => `(tactic| try dsimp only [L2.cxOf, L2.Cx.nox, L2.Cx.wish, L2.Cx.blk])
local macro_rules | `(tactic| walk_at "ask") => `(tactic| fail)
local macro_rules | `(tactic| walk_at "mem") => `(tactic| first | with_reducible exact List.mem_cons_self | (with_reducible apply List.mem_cons_of_mem; walk_at "mem"))
local macro_rules | `(tactic| walk_at "put") => `(tactic| first | with_reducible exact Lt.Put.head | (with_reducible apply Lt.Put.tail; walk_at "put"))
local macro_rules | `(tactic| walk_at "own") => `(tactic| first | exact Or.inr (by assumption) | exact Or.inl (by walk_at "mem"))
local macro_rules | `(tactic| walk_at "cnd") => `(tactic| first | assumption | decide | ((try dsimp only); omega) | (unfold CMul; omega) | (unfold CDiv; omega) | (unfold CPow; omega) | exact Or.inr (by decide) | exact Or.inl (by decide) | exact wide_div (b := 128) (by omega) (by omega) (by decide) (by decide))
local macro_rules | `(tactic| walk_at "at") => `(tactic| first | exact rfl | assumption)
local macro_rules | `(tactic| walk_at "kit") => `(tactic| first | assumption | exact kit_int_int | exact kit_int_bool | exact kit_int_str | exact kit_int_list | exact kit_int_tuple | exact kit_int_dict | exact kit_bool_int | exact kit_bool_bool | exact kit_bool_str | exact kit_bool_list | exact kit_bool_tuple | exact kit_bool_dict | exact kit_str_int | exact kit_str_bool | exact kit_str_str | exact kit_str_list | exact kit_str_tuple | exact kit_str_dict | exact kit_list_int | exact kit_list_bool | exact kit_list_str | exact kit_list_list | exact kit_list_tuple | exact kit_list_dict | exact kit_tuple_int | exact kit_tuple_bool | exact kit_tuple_str | exact kit_tuple_list | exact kit_tuple_tuple | exact kit_tuple_dict | exact kit_dict_int | exact kit_dict_bool | exact kit_dict_str | exact kit_dict_list | exact kit_dict_tuple | exact kit_dict_dict | exact kit_NoneType_int | exact kit_NoneType_bool | exact kit_NoneType_str | exact kit_NoneType_list | exact kit_NoneType_tuple | exact kit_NoneType_dict)
local macro_rules | `(tactic| walk_at "kitA") => `(tactic| first | assumption | exact kitA_lt_int | exact kitA_lt_bool | exact kitA_lt_str | exact kitA_lt_list | exact kitA_lt_tuple | exact kitA_lt_dict | exact kitA_lt_NoneType | exact kitA_bilt_int | exact kitA_bilt_bool | exact kitA_bilt_str | exact kitA_bilt_list | exact kitA_bilt_tuple | exact kitA_bilt_dict | exact kitA_bilt_NoneType)
local macro_rules | `(tactic| walk_at "ty") => `(tactic| first | exact .base (.int _) | exact .base (.bl _) | exact .base (.str _) | exact .base .non | exact .base (.lst (Stt.get (by assumption) (by walk_at "mem"))) | exact .base (.tup (Stt.get (by assumption) (by walk_at "mem"))) | exact .base (.dK (Stt.get (by assumption) (by walk_at "mem"))) | exact sqL_ty (Stt.upL (by assumption) (by assumption)) | exact sqT_ty (Stt.upT (by assumption) (by assumption)) | exact InsT.ty (by assumption) (Stt.get (by assumption) (by walk_at "mem")) | assumption)
local macro_rules | `(tactic| walk_at "rd1") => `(tactic| first
  | with_reducible refine' Rd.seq ?_
  | with_reducible refine' Rd.asg ?_
  | ((with_reducible refine' Rd.var ?vh ?_); (case vh => exact rfl))
  | with_reducible refine' Rd.con ?_
  | with_reducible refine' Rd.op ?_
  | with_reducible refine' Rd.i0 ?_
  | ((with_reducible refine' Rd.ic ?vh ?_); (case vh => walk_at "cnd"))
  | ((with_reducible refine' Rd.ixL ?v1 ?v2 ?v3 ?_); (case v1 => assumption); (case v2 => walk_at "mem"); (case v3 => walk_at "at"))
  | ((with_reducible refine' Rd.ixT ?v1 ?v2 ?v3 ?_); (case v1 => assumption); (case v2 => walk_at "mem"); (case v3 => walk_at "at"))
  | ((with_reducible refine' Rd.ixD2 ?v1 ?v2 ?_); (case v1 => assumption); (case v2 => walk_at "mem"); intro _)
  | ((with_reducible refine' Rd.ixD3 ?v1 ?v2 ?_); (case v1 => assumption); (case v2 => walk_at "mem"); intro _)
  | ((with_reducible refine' Rd.setD2 ?v1 ?v2 ?v3 ?v4 ?_); (case v1 => assumption); (case v2 => walk_at "mem"); (case v3 => walk_at "put"); (case v4 => walk_at "own"); intro _ _)
  | ((with_reducible refine' Rd.isi ?v1 ?v2 ?v3 ?_); (case v1 => walk_at "ty"); (case v2 => first | exact ClsV.ty _ | exact ClsV.own _); (case v3 => walk_at "kit"))
  | with_reducible refine' Rd.fld ?_
  | ((with_reducible refine' Rd.fldI ?v1 ?v2 ?v3 ?v4 ?v5 ?_); (case v1 => assumption); (case v2 => walk_at "mem"); (case v3 => assumption); (case v4 => assumption); (case v5 => walk_at "at"))
  | with_reducible refine' Rd.sfld ?_
  | ((with_reducible refine' Rd.sfldI ?v1 ?v2 ?v3 ?v4 ?v5 ?v6 ?v7 ?_); (case v1 => assumption); (case v2 => walk_at "mem"); (case v3 => assumption); (case v4 => assumption); (case v5 => first | decide | (refine Nat.lt_of_le_of_lt (putF_len _ _ _) ?_; decide)); (case v6 => walk_at "put"); (case v7 => walk_at "own"); intro _ _)
  | with_reducible refine' Rd.make ?_
  | with_reducible refine' Rd.gcd ?_
  | with_reducible refine' Rd.cons ?_
  | with_reducible refine' Rd.nil ?_
  | with_reducible refine' Rd.cb ?_
  | with_reducible refine' Rd.intI ?_
  | with_reducible refine' Rd.absI ?_
  | ((with_reducible refine' Rd.lenL ?v1 ?v2 ?_); (case v1 => assumption); (case v2 => walk_at "mem"))
  | ((with_reducible refine' Rd.lenT ?v1 ?v2 ?_); (case v1 => assumption); (case v2 => walk_at "mem"))
  | ((with_reducible refine' Rd.lenBL ?v1 ?v2 ?v3 ?_); (case v1 => assumption); (case v2 => assumption); (case v3 => first | exact List.not_mem_nil | assumption))
  | ((with_reducible refine' Rd.lenBT ?v1 ?v2 ?v3 ?_); (case v1 => assumption); (case v2 => assumption); (case v3 => first | exact List.not_mem_nil | assumption))
  | ((with_reducible refine' Rd.ixBL ?v1 ?v2 ?v4 ?v3 ?_); (case v1 => assumption); (case v2 => assumption); (case v4 => first | exact List.not_mem_nil | assumption); (case v3 => walk_at "at"))
  | ((with_reducible refine' Rd.ixBT ?v1 ?v2 ?v4 ?v3 ?_); (case v1 => assumption); (case v2 => assumption); (case v4 => first | exact List.not_mem_nil | assumption); (case v3 => walk_at "at"))
  | ((with_reducible refine' Rd.brI ?vh ?_); (case vh => with_reducible exact rfl))
  | with_reducible refine' Rd.ifS ?_
  | with_reducible refine' Rd.test ?_
  | with_reducible refine' Rd.tbl ?_
  | with_reducible refine' Rd.bl ?_
  | with_reducible refine' Rd.brTT ?_
  | with_reducible refine' Rd.brFF ?_
  | with_reducible refine' Rd.brN ?_
  | ((with_reducible refine' Rd.aug ?vh ?_); (case vh => exact rfl))
  | with_reducible refine' Rd.ipI ?_
  | with_reducible refine' Rd.blV ?_
  | with_reducible refine' Rd.notVL ?_
  | with_reducible refine' Rd.andT ?_
  | with_reducible refine' Rd.orT ?_
  | with_reducible refine' Rd.notT ?_
  | with_reducible refine' Rd.andV ?_
  | with_reducible refine' Rd.orV ?_
  | with_reducible refine' Rd.notV ?_
  | with_reducible refine' Rd.ifE ?_
  | ((with_reducible refine' Rd.eqS ?vh ?_); (case vh => exact rfl))
  | ((with_reducible refine' Rd.neS ?vh ?_); (case vh => exact rfl))
  | with_reducible refine' Rd.par ?_
  | with_reducible refine' Rd.parL ?_
  | with_reducible refine' Rd.un ?_
  | with_reducible refine' Rd.u1 ?_
  | with_reducible refine' Rd.sub ?_
  | ((with_reducible refine' Rd.setL ?v1 ?v2 ?v3 ?v4 ?v5 ?_); (case v1 => assumption); (case v2 => walk_at "mem"); (case v3 => walk_at "at"); (case v4 => walk_at "put"); (case v5 => walk_at "own"); intro _ _)
  | with_reducible refine' Rd.tup ?_
  | with_reducible refine' Rd.lst ?_
  | ((with_reducible refine' Rd.tupN ?v1 ?v2 ?_); (case v1 => assumption); (case v2 => simp only [List.length_cons, List.length_nil]; decide); intro _ _ _ _)
  | ((with_reducible refine' Rd.lstN ?v1 ?v2 ?_); (case v1 => assumption); (case v2 => simp only [List.length_cons, List.length_nil]; decide); intro _ _ _ _)
  | with_reducible refine' Rd.ret ?_
  | with_reducible refine' Rd.drop ?_
  | with_reducible refine' Rd.retN ?_
  | with_reducible refine' Rd.next ?_
  | with_reducible refine' Rd.brk ?_
  | with_reducible refine' Rd.cont ?_
  | with_reducible refine' Rd.call ?_
  | walk_at "ask"
  | with_reducible refine' Rd.bm ?_
  | ((with_reducible refine' Rd.bmL ?v1 ?v2 ?_); (case v1 => assumption); (case v2 => walk_at "mem"))
  | ((with_reducible refine' Rd.app ?v1 ?v2 ?v3 ?v4 ?v5 ?_); (case v1 => assumption); (case v2 => walk_at "mem"); (case v3 => simp only [List.length_cons, List.length_nil, List.length_append]; omega); (case v4 => walk_at "put"); (case v5 => walk_at "own"); intro _ _)
  | with_reducible refine' Rd.asgT ?_
  | ((with_reducible refine' Rd.gtup ?v1 ?v2 ?v3 ?_); (case v1 => assumption); (case v2 => walk_at "mem"); (case v3 => exact rfl))
  | with_reducible refine' Rd.gcons ?_
  | with_reducible refine' Rd.gname ?_
  | with_reducible refine' Rd.gnil ?_
  | with_reducible refine' Rd.sl ?_
  | with_reducible refine' Rd.noPart ?_
  | with_reducible refine' Rd.part ?_
  | with_reducible refine' Rd.prt ?_
  | with_reducible refine' Rd.isB ?_
  | ((with_reducible refine' Rd.wp ?vh ?_); (case vh => exact rfl))
  | with_reducible refine' Rd.makeK ?_
  | with_reducible refine' Rd.meth ?_
  | ((with_reducible refine' Rd.catL ?v1 ?v2 ?v3 ?v4 ?_); (case v1 => assumption); (case v2 => walk_at "mem"); (case v3 => walk_at "mem"); (case v4 => simp only [List.length_cons, List.length_nil, List.length_append]; omega); intro _ _ _ _)
  | with_reducible refine' Rd.dnew ?_
  | ((with_reducible refine' Rd.dnewL ?v1 ?_); (case v1 => assumption); intro _ _ _ _)
  | with_reducible refine' Rd.lc ?_
  | with_reducible refine' Rd.wZ ?_
  | with_reducible refine' Rd.tYesH ?_
  | with_reducible refine' Rd.fmt ?_
  | with_reducible refine' Rd.joined ?_
  | with_reducible refine' Rd.jsNil ?_
  | with_reducible refine' Rd.jsCons ?_
  | ((with_reducible refine' Rd.isiT ?v1 ?v2 ?v3 ?v4 ?v5 ?_); (case v1 => assumption); (case v2 => walk_at "mem"); (case v3 => walk_at "ty"); (case v4 => first | exact .cons (.ty _) (.cons (.ty _) .nil) | exact .cons (.ty _) (.cons (.ty _) (.cons (.ty _) (.cons (.ty _) .nil))) | exact .cons (.ty _) (.cons (.ty _) (.cons (.ty _) .nil))); (case v5 => walk_at "kitA"))
  | with_reducible refine' Rd.forS ?_
  | with_reducible refine' Rd.wEnT ?_
  | ((with_reducible refine' Rd.wEnTL ?v1 ?v2 ?_); (case v1 => assumption); (case v2 => walk_at "mem"))
  | with_reducible refine' Rd.wL ?_
  | ((with_reducible refine' Rd.wLL ?v1 ?v2 ?_); (case v1 => assumption); (case v2 => walk_at "mem"))
  | with_reducible refine' Rd.wT ?_
  | ((with_reducible refine' Rd.wTL ?v1 ?v2 ?_); (case v1 => assumption); (case v2 => walk_at "mem"))
  | with_reducible refine' Rd.wR1 ?_
  | ((with_reducible refine' Rd.wR1L ?v1 ?v2 ?_); (case v1 => omega); (case v2 => omega))
  | with_reducible refine' Rd.wR2 ?_
  | ((with_reducible refine' Rd.wR2L ?v1 ?_); (case v1 => omega)))
local macro_rules | `(tactic| walk_at "rd") => `(tactic| repeat (walk_at "rd1"))

section
variable {P : Program} {w : World} {K : PySem.W.Frag} {mg : Str → Option Value} {base : Heap}
/-! ### exceptions made and kept -/
def ExM (C : Addr) (sp : Sp) (vs : List V) (H1 : Hp) (Q : VK) : Prop := vs.length ≤ 1000 ∧ ∀ a, H1 a = none → sp (.ref a :: vs) (upd H1 a (exo a C none)) (fun v H2 => v = .non ∧ Q (.ref a) H2) noX
theorem Rd.exM {C : Addr} {sp : Sp} {ta : TA} {σ : L2.St} {H : Hp} {Q : VK} (h : ta σ H fun vs H1 => ExM C sp vs H1 Q) : tExMk C sp ta σ H Q := h
def ExMK (n : Nat) (C : Addr) (sp : Sp) (gV : List V → List V → List V) (zs : List V) (H1 : Hp) (Q : VK) : Prop := zs.length = n ∧ ∀ a, H1 a = none → sp (gV [.ref a] zs) (upd H1 a (exo a C none)) (fun v H2 => v = .non ∧ Q (.ref a) H2) noX
theorem Rd.exMK {n : Nat} {C : Addr} {sp : Sp} {gV : List V → List V → List V} {tk : TA} {σ : L2.St} {H : Hp} {Q : VK} (h : tk σ H fun zs H1 => ExMK n C sp gV zs H1 Q) : tExMkK n C sp gV tk σ H Q := h
def ExFq (K : PySem.W.Frag) (f : Str) (x : V) (H1 : Hp) (Q : VK) : Prop := ∃ (a C d : Addr) (fs : List (Str × V)) (v : V), x = .ref a ∧ XfC K C ∧ PySem.W.findIn K (.ref C) f = some none ∧ H1 a = some (exo a C (some d)) ∧ H1 d = some (exd d fs) ∧ fs.lookup f = some v ∧ Q v H1
theorem Rd.exF {f : Str} {te : TE} {σ : L2.St} {H : Hp} {Q : VK} (h : te σ H fun x H1 => ExFq K f x H1 Q) : tExF K f te σ H Q := h
section
variable {H0 H : Hp} {S : List Addr} {l : Led} {C : Addr} {Q : VK} {x : V} {f : Str}
theorem exi_at (s : Stt H0 S l H) (k : ∀ a d H', H0 a = none → H0 d = none → Stt H0 S ((d, Is (exd d [(f, x)])) :: (a, Is (exo a C (some d))) :: l) H' → Q (.ref a) H') (a : Addr) (ha : H a = none) : spExI C f [.ref a, x] (upd H a (exo a C none)) (fun v H2 => v = .non ∧ Q (.ref a) H2) noX := by
  have s1 := s.new ha (exo a C none)
  refine ⟨a, x, rfl, upd_same, fun d hd hn => ⟨rfl, ?_⟩⟩
  have s2 := s1.new hd (exd d [(f, x)])
  exact k a d _ (s.none ha) (s1.none hd) (s2.set (.tail .head) (.inr (s.none ha)))
theorem exM_ask (s : Stt H0 S l H) (k : ∀ a d H', H0 a = none → H0 d = none → Stt H0 S ((d, Is (exd d [(f, x)])) :: (a, Is (exo a C (some d))) :: l) H' → Q (.ref a) H') : ExM C (spExI C f) [x] H Q :=
  ⟨by simp, fun a ha => exi_at s k a ha⟩
theorem exMK_ask {z : Str} (s : Stt H0 S l H) (k : ∀ a d H', H0 a = none → H0 d = none → Stt H0 S ((d, Is (exd d [(f, x)])) :: (a, Is (exo a C (some d))) :: l) H' → Q (.ref a) H') : ExMK [z].length C (spExI C f) (fun vs zs => vs ++ zs) [x] H Q :=
  ⟨rfl, fun a ha => exi_at s k a ha⟩
theorem exF_ask {a d : Addr} {fs : List (Str × V)} (ha : H0 a = some (exo a C (some d))) (hd : H0 d = some (exd d fs)) (s : Stt H0 [] l H) (T : XfC K C) (hn : PySem.W.findIn K (.ref C) f = some none) (e : fs.lookup f = some x) (k : Q x H) : ExFq K f (.ref a) H Q :=
  ⟨a, C, d, fs, x, rfl, T, hn, s.keep.get List.not_mem_nil ha, s.keep.get List.not_mem_nil hd, e, k⟩
end
/-- the eleven errors with one attribute, new over H, all of x -/
def ExL (K : PySem.W.Frag) (H H' : Hp) (x : V) : List (Str × Str) → List Addr → Prop
  | [], [] => True
  | c :: cs, a :: as => (H a = none ∧ ∃ d, H d = none ∧ H' a = some (exo a (He.ga K c.1) (some d)) ∧ H' d = some (exd d [(c.2, x)])) ∧ ExL K H H' x cs as
  | _, _ => False
def oneL : List (Str × Str) := [("BadPart", "part"), ("BadText", "line"), ("BadTask", "index"), ("BadCounter", "index"), ("BadLate", "late"), ("UnknownTask", "name"), ("BadPlace", "place"), ("BadEvent", "index"), ("BadShift", "shift"), ("BadWeights", "index"), ("BadWord", "word")]
def spMade (K : PySem.W.Frag) : Sp := fun vs H Q _ => ∃ x, vs = [x] ∧ ∀ p (as : List Addr) H', H p = none → Stt H [] [(p, Is (.lst (as.map V.ref)))] H' → ExL K H H' x oneL as → Q (.ref p) H'
local macro_rules | `(tactic| walk_at "ask") => `(tactic| first
  | with_reducible refine' Rd.exMK ?_
  | with_reducible refine' Rd.exM ?_
  | ((with_reducible refine' exMK_ask ?v1 ?_); (case v1 => assumption); intro _ _ _ _ _ _)
  | ((with_reducible refine' exM_ask ?v1 ?_); (case v1 => assumption); intro _ _ _ _ _ _))
theorem ok_l_with_one (T : Txt K mg) : FnOk P w K mg base CX0 3 (He.fAd K ("_law_with_one", none)) T.fd_l_with_one ["_law_x"] (spMade K) := by
  refine T.F_l_with_one.ok sc_l_with_one (fun vs H Q E h => ?_) (fun cdv A outer s H vs Q E hr h => ?_)
  · obtain ⟨x, rfl, _⟩ := h
    rfl
  · obtain ⟨x, rfl, q⟩ := h
    refine ⟨_, PSs.nox (pss_cons (ps_asg (pe_lst (pa_cons (pe_exMkK T.x_BadPart (ok_BadPart_init T) (hr.mono (by decide)) T.kb_BadPart_init_part pass0 rfl T.g_BadPart (pk_cons (pv 0) pk_nil)) (pa_cons (pe_exMkK T.x_BadText (ok_BadText_init T) (hr.mono (by decide)) T.kb_BadText_init_line pass0 rfl T.g_BadText (pk_cons (pv 0) pk_nil)) (pa_cons (pe_exMkK T.x_BadTask (ok_BadTask_init T) (hr.mono (by decide)) T.kb_BadTask_init_index pass0 rfl T.g_BadTask (pk_cons (pv 0) pk_nil)) (pa_cons (pe_exMkK T.x_BadCounter (ok_BadCounter_init T) (hr.mono (by decide)) T.kb_BadCounter_init_index pass0 rfl T.g_BadCounter (pk_cons (pv 0) pk_nil)) (pa_cons (pe_exMkK T.x_BadLate (ok_BadLate_init T) (hr.mono (by decide)) T.kb_BadLate_init_late pass0 rfl T.g_BadLate (pk_cons (pv 0) pk_nil)) pa_nil)))))) (pg_name (i := 1) sc_l_with_one.nd rfl (by first | exact Or.inl rfl | exact Or.inr rfl)))
  (pss_cons (ps_asg (pe_op op_cat (pv 1) (pe_lst (pa_cons (pe_exMkK T.x_UnknownTask (ok_UnknownTask_init T) (hr.mono (by decide)) T.kb_UnknownTask_init_name pass0 rfl T.g_UnknownTask (pk_cons (pv 0) pk_nil)) (pa_cons (pe_exMkK T.x_BadPlace (ok_BadPlace_init T) (hr.mono (by decide)) T.kb_BadPlace_init_place pass0 rfl T.g_BadPlace (pk_cons (pv 0) pk_nil)) (pa_cons (pe_exMkK T.x_BadEvent (ok_BadEvent_init T) (hr.mono (by decide)) T.kb_BadEvent_init_index pass0 rfl T.g_BadEvent (pk_cons (pv 0) pk_nil)) (pa_cons (pe_exMkK T.x_BadShift (ok_BadShift_init T) (hr.mono (by decide)) T.kb_BadShift_init_shift pass0 rfl T.g_BadShift (pk_cons (pv 0) pk_nil)) pa_nil)))))) (pg_name (i := 1) sc_l_with_one.nd rfl (by first | exact Or.inl rfl | exact Or.inr rfl)))
  (pss_one (ps_ret (pe_op op_cat (pv 1) (pe_lst (pa_cons (pe_exMkK T.x_BadWeights (ok_BadWeights_init T) (hr.mono (by decide)) T.kb_BadWeights_init_index pass0 rfl T.g_BadWeights (pk_cons (pv 0) pk_nil)) (pa_cons (pe_exMkK T.x_BadWord (ok_BadWord_init T) (hr.mono (by decide)) T.kb_BadWord_init_word pass0 rfl T.g_BadWord (pk_cons (pv 0) pk_nil)) pa_nil)))))))), ?_⟩
    walk_at "k"
    have s0 : Stt H [] [] H := Stt.nil
    walk_at "rd"
    rename_i a0 d0 h0 na0 nd0 sa0 a1 d1 h1 na1 nd1 sa1 a2 d2 h2 na2 nd2 sa2 a3 d3 h3 na3 nd3 sa3 a4 d4 h4 na4 nd4 sa4 p0 hp0 np0 sp0 a5 d5 h5 na5 nd5 sa5 a6 d6 h6 na6 nd6 sa6 a7 d7 h7 na7 nd7 sa7 a8 d8 h8 na8 nd8 sa8 p1 hp1 np1 sp1 p2 hp2 np2 sp2 a9 d9 h9 na9 nd9 sa9 a10 d10 h10 na10 nd10 sa10 p3 hp3 np3 sp3 p4 hp4 np4 sp4
    refine q _ [a0, a1, a2, a3, a4, a5, a6, a7, a8, a9, a10] _ np4 (sp4.sub (List.Sublist.cons₂ _ (List.nil_sublist _))) ?_
    exact ⟨⟨na0, d0, nd0, sp4.get (by walk_at "mem"), sp4.get (by walk_at "mem")⟩, ⟨na1, d1, nd1, sp4.get (by walk_at "mem"), sp4.get (by walk_at "mem")⟩, ⟨na2, d2, nd2, sp4.get (by walk_at "mem"), sp4.get (by walk_at "mem")⟩, ⟨na3, d3, nd3, sp4.get (by walk_at "mem"), sp4.get (by walk_at "mem")⟩, ⟨na4, d4, nd4, sp4.get (by walk_at "mem"), sp4.get (by walk_at "mem")⟩, ⟨na5, d5, nd5, sp4.get (by walk_at "mem"), sp4.get (by walk_at "mem")⟩, ⟨na6, d6, nd6, sp4.get (by walk_at "mem"), sp4.get (by walk_at "mem")⟩, ⟨na7, d7, nd7, sp4.get (by walk_at "mem"), sp4.get (by walk_at "mem")⟩, ⟨na8, d8, nd8, sp4.get (by walk_at "mem"), sp4.get (by walk_at "mem")⟩, ⟨na9, d9, nd9, sp4.get (by walk_at "mem"), sp4.get (by walk_at "mem")⟩, ⟨na10, d10, nd10, sp4.get (by walk_at "mem"), sp4.get (by walk_at "mem")⟩, trivial⟩
theorem ok_l_by_place (T : Txt K mg) : FnOk P w K mg base CX0 3 (He.fAd K ("_law_by_place", none)) T.fd_l_by_place ["_law_x"] (spMade K) := by
  refine T.F_l_by_place.ok sc_l_by_place (fun vs H Q E h => ?_) (fun cdv A outer s H vs Q E hr h => ?_)
  · obtain ⟨x, rfl, _⟩ := h
    rfl
  · obtain ⟨x, rfl, q⟩ := h
    refine ⟨_, PSs.nox (pss_cons (ps_asg (pe_lst (pa_cons (pe_exMk T.x_BadPart (ok_BadPart_init T) (hr.mono (by decide)) T.b_BadPart_init pass0 rfl T.g_BadPart (pa_cons (pv 0) pa_nil)) (pa_cons (pe_exMk T.x_BadText (ok_BadText_init T) (hr.mono (by decide)) T.b_BadText_init pass0 rfl T.g_BadText (pa_cons (pv 0) pa_nil)) (pa_cons (pe_exMk T.x_BadTask (ok_BadTask_init T) (hr.mono (by decide)) T.b_BadTask_init pass0 rfl T.g_BadTask (pa_cons (pv 0) pa_nil)) (pa_cons (pe_exMk T.x_BadCounter (ok_BadCounter_init T) (hr.mono (by decide)) T.b_BadCounter_init pass0 rfl T.g_BadCounter (pa_cons (pv 0) pa_nil)) (pa_cons (pe_exMk T.x_BadLate (ok_BadLate_init T) (hr.mono (by decide)) T.b_BadLate_init pass0 rfl T.g_BadLate (pa_cons (pv 0) pa_nil)) (pa_cons (pe_exMk T.x_UnknownTask (ok_UnknownTask_init T) (hr.mono (by decide)) T.b_UnknownTask_init pass0 rfl T.g_UnknownTask (pa_cons (pv 0) pa_nil)) (pa_cons (pe_exMk T.x_BadPlace (ok_BadPlace_init T) (hr.mono (by decide)) T.b_BadPlace_init pass0 rfl T.g_BadPlace (pa_cons (pv 0) pa_nil)) (pa_cons (pe_exMk T.x_BadEvent (ok_BadEvent_init T) (hr.mono (by decide)) T.b_BadEvent_init pass0 rfl T.g_BadEvent (pa_cons (pv 0) pa_nil)) pa_nil))))))))) (pg_name (i := 1) sc_l_by_place.nd rfl (by first | exact Or.inl rfl | exact Or.inr rfl)))
  (pss_one (ps_ret (pe_op op_cat (pv 1) (pe_lst (pa_cons (pe_exMk T.x_BadShift (ok_BadShift_init T) (hr.mono (by decide)) T.b_BadShift_init pass0 rfl T.g_BadShift (pa_cons (pv 0) pa_nil)) (pa_cons (pe_exMk T.x_BadWeights (ok_BadWeights_init T) (hr.mono (by decide)) T.b_BadWeights_init pass0 rfl T.g_BadWeights (pa_cons (pv 0) pa_nil)) (pa_cons (pe_exMk T.x_BadWord (ok_BadWord_init T) (hr.mono (by decide)) T.b_BadWord_init pass0 rfl T.g_BadWord (pa_cons (pv 0) pa_nil)) pa_nil)))))))), ?_⟩
    walk_at "k"
    have s0 : Stt H [] [] H := Stt.nil
    walk_at "rd"
    rename_i a0 d0 h0 na0 nd0 sa0 a1 d1 h1 na1 nd1 sa1 a2 d2 h2 na2 nd2 sa2 a3 d3 h3 na3 nd3 sa3 a4 d4 h4 na4 nd4 sa4 a5 d5 h5 na5 nd5 sa5 a6 d6 h6 na6 nd6 sa6 a7 d7 h7 na7 nd7 sa7 p0 hp0 np0 sp0 a8 d8 h8 na8 nd8 sa8 a9 d9 h9 na9 nd9 sa9 a10 d10 h10 na10 nd10 sa10 p1 hp1 np1 sp1 p2 hp2 np2 sp2
    refine q _ [a0, a1, a2, a3, a4, a5, a6, a7, a8, a9, a10] _ np2 (sp2.sub (List.Sublist.cons₂ _ (List.nil_sublist _))) ?_
    exact ⟨⟨na0, d0, nd0, sp2.get (by walk_at "mem"), sp2.get (by walk_at "mem")⟩, ⟨na1, d1, nd1, sp2.get (by walk_at "mem"), sp2.get (by walk_at "mem")⟩, ⟨na2, d2, nd2, sp2.get (by walk_at "mem"), sp2.get (by walk_at "mem")⟩, ⟨na3, d3, nd3, sp2.get (by walk_at "mem"), sp2.get (by walk_at "mem")⟩, ⟨na4, d4, nd4, sp2.get (by walk_at "mem"), sp2.get (by walk_at "mem")⟩, ⟨na5, d5, nd5, sp2.get (by walk_at "mem"), sp2.get (by walk_at "mem")⟩, ⟨na6, d6, nd6, sp2.get (by walk_at "mem"), sp2.get (by walk_at "mem")⟩, ⟨na7, d7, nd7, sp2.get (by walk_at "mem"), sp2.get (by walk_at "mem")⟩, ⟨na8, d8, nd8, sp2.get (by walk_at "mem"), sp2.get (by walk_at "mem")⟩, ⟨na9, d9, nd9, sp2.get (by walk_at "mem"), sp2.get (by walk_at "mem")⟩, ⟨na10, d10, nd10, sp2.get (by walk_at "mem"), sp2.get (by walk_at "mem")⟩, trivial⟩
end

end
section
local macro_rules | `(tactic| walk_at "subl") => `(tactic| first | with_reducible exact List.nil_sublist _ | with_reducible exact List.Sublist.refl _ | (with_reducible refine List.Sublist.cons₂ _ ?_; walk_at "subl") | (with_reducible refine List.Sublist.cons _ ?_; walk_at "subl"))
local macro_rules | `(tactic| walk_at "k") => `(tactic| try dsimp only [L2.cxOf, L2.Cx.nox, L2.Cx.wish, L2.Cx.blk])
local macro_rules | `(tactic| walk_at "ask") => `(tactic| fail)
local macro_rules | `(tactic| walk_at "mem") => `(tactic| first | with_reducible exact List.mem_cons_self | (with_reducible apply List.mem_cons_of_mem; walk_at "mem"))
local macro_rules | `(tactic| walk_at "put") => `(tactic| first | with_reducible exact Lt.Put.head | (with_reducible apply Lt.Put.tail; walk_at "put"))
local macro_rules | `(tactic| walk_at "own") => `(tactic| first | exact Or.inr (by assumption) | exact Or.inl (by walk_at "mem"))
local macro_rules | `(tactic| walk_at "cnd") => `(tactic| first | assumption | decide | ((try dsimp only); omega) | (unfold CMul; omega) | (unfold CDiv; omega) | (unfold CPow; omega) | exact Or.inr (by decide) | exact Or.inl (by decide) | exact wide_div (b := 128) (by omega) (by omega) (by decide) (by decide))
local macro_rules | `(tactic| walk_at "at") => `(tactic| first | exact rfl | assumption)
local macro_rules | `(tactic| walk_at "kit") => `(tactic| first | assumption | exact kit_int_int | exact kit_int_bool | exact kit_int_str | exact kit_int_list | exact kit_int_tuple | exact kit_int_dict | exact kit_bool_int | exact kit_bool_bool | exact kit_bool_str | exact kit_bool_list | exact kit_bool_tuple | exact kit_bool_dict | exact kit_str_int | exact kit_str_bool | exact kit_str_str | exact kit_str_list | exact kit_str_tuple | exact kit_str_dict | exact kit_list_int | exact kit_list_bool | exact kit_list_str | exact kit_list_list | exact kit_list_tuple | exact kit_list_dict | exact kit_tuple_int | exact kit_tuple_bool | exact kit_tuple_str | exact kit_tuple_list | exact kit_tuple_tuple | exact kit_tuple_dict | exact kit_dict_int | exact kit_dict_bool | exact kit_dict_str | exact kit_dict_list | exact kit_dict_tuple | exact kit_dict_dict | exact kit_NoneType_int | exact kit_NoneType_bool | exact kit_NoneType_str | exact kit_NoneType_list | exact kit_NoneType_tuple | exact kit_NoneType_dict)
local macro_rules | `(tactic| walk_at "kitA") => `(tactic| first | assumption | exact kitA_lt_int | exact kitA_lt_bool | exact kitA_lt_str | exact kitA_lt_list | exact kitA_lt_tuple | exact kitA_lt_dict | exact kitA_lt_NoneType | exact kitA_bilt_int | exact kitA_bilt_bool | exact kitA_bilt_str | exact kitA_bilt_list | exact kitA_bilt_tuple | exact kitA_bilt_dict | exact kitA_bilt_NoneType)
local macro_rules | `(tactic| walk_at "ty") => `(tactic| first | exact .base (.int _) | exact .base (.bl _) | exact .base (.str _) | exact .base .non | exact .base (.lst (Stt.get (by assumption) (by walk_at "mem"))) | exact .base (.tup (Stt.get (by assumption) (by walk_at "mem"))) | exact .base (.dK (Stt.get (by assumption) (by walk_at "mem"))) | exact sqL_ty (Stt.upL (by assumption) (by assumption)) | exact sqT_ty (Stt.upT (by assumption) (by assumption)) | exact InsT.ty (by assumption) (Stt.get (by assumption) (by walk_at "mem")) | assumption)
local macro_rules | `(tactic| walk_at "rd1") => `(tactic| first
  | with_reducible refine' Rd.seq ?_
  | with_reducible refine' Rd.asg ?_
  | ((with_reducible refine' Rd.var ?vh ?_); (case vh => exact rfl))
  | with_reducible refine' Rd.con ?_
  | with_reducible refine' Rd.op ?_
  | with_reducible refine' Rd.i0 ?_
  | ((with_reducible refine' Rd.ic ?vh ?_); (case vh => walk_at "cnd"))
  | ((with_reducible refine' Rd.ixL ?v1 ?v2 ?v3 ?_); (case v1 => assumption); (case v2 => walk_at "mem"); (case v3 => walk_at "at"))
  | ((with_reducible refine' Rd.ixT ?v1 ?v2 ?v3 ?_); (case v1 => assumption); (case v2 => walk_at "mem"); (case v3 => walk_at "at"))
  | ((with_reducible refine' Rd.ixD2 ?v1 ?v2 ?_); (case v1 => assumption); (case v2 => walk_at "mem"); intro _)
  | ((with_reducible refine' Rd.ixD3 ?v1 ?v2 ?_); (case v1 => assumption); (case v2 => walk_at "mem"); intro _)
  | ((with_reducible refine' Rd.setD2 ?v1 ?v2 ?v3 ?v4 ?_); (case v1 => assumption); (case v2 => walk_at "mem"); (case v3 => walk_at "put"); (case v4 => walk_at "own"); intro _ _)
  | ((with_reducible refine' Rd.isi ?v1 ?v2 ?v3 ?_); (case v1 => walk_at "ty"); (case v2 => first | exact ClsV.ty _ | exact ClsV.own _); (case v3 => walk_at "kit"))
  | with_reducible refine' Rd.fld ?_
  | ((with_reducible refine' Rd.fldI ?v1 ?v2 ?v3 ?v4 ?v5 ?_); (case v1 => assumption); (case v2 => walk_at "mem"); (case v3 => assumption); (case v4 => assumption); (case v5 => walk_at "at"))
  | with_reducible refine' Rd.sfld ?_
  | ((with_reducible refine' Rd.sfldI ?v1 ?v2 ?v3 ?v4 ?v5 ?v6 ?v7 ?_); (case v1 => assumption); (case v2 => walk_at "mem"); (case v3 => assumption); (case v4 => assumption); (case v5 => first | decide | (refine Nat.lt_of_le_of_lt (putF_len _ _ _) ?_; decide)); (case v6 => walk_at "put"); (case v7 => walk_at "own"); intro _ _)
  | with_reducible refine' Rd.make ?_
  | with_reducible refine' Rd.gcd ?_
  | with_reducible refine' Rd.cons ?_
  | with_reducible refine' Rd.nil ?_
  | with_reducible refine' Rd.cb ?_
  | with_reducible refine' Rd.intI ?_
  | with_reducible refine' Rd.absI ?_
  | ((with_reducible refine' Rd.lenL ?v1 ?v2 ?_); (case v1 => assumption); (case v2 => walk_at "mem"))
  | ((with_reducible refine' Rd.lenT ?v1 ?v2 ?_); (case v1 => assumption); (case v2 => walk_at "mem"))
  | ((with_reducible refine' Rd.lenBL ?v1 ?v2 ?v3 ?_); (case v1 => assumption); (case v2 => assumption); (case v3 => first | exact List.not_mem_nil | assumption))
  | ((with_reducible refine' Rd.lenBT ?v1 ?v2 ?v3 ?_); (case v1 => assumption); (case v2 => assumption); (case v3 => first | exact List.not_mem_nil | assumption))
  | ((with_reducible refine' Rd.ixBL ?v1 ?v2 ?v4 ?v3 ?_); (case v1 => assumption); (case v2 => assumption); (case v4 => first | exact List.not_mem_nil | assumption); (case v3 => walk_at "at"))
  | ((with_reducible refine' Rd.ixBT ?v1 ?v2 ?v4 ?v3 ?_); (case v1 => assumption); (case v2 => assumption); (case v4 => first | exact List.not_mem_nil | assumption); (case v3 => walk_at "at"))
  | ((with_reducible refine' Rd.brI ?vh ?_); (case vh => with_reducible exact rfl))
  | with_reducible refine' Rd.ifS ?_
  | with_reducible refine' Rd.test ?_
  | with_reducible refine' Rd.tbl ?_
  | with_reducible refine' Rd.bl ?_
  | with_reducible refine' Rd.brTT ?_
  | with_reducible refine' Rd.brFF ?_
  | with_reducible refine' Rd.brN ?_
  | ((with_reducible refine' Rd.aug ?vh ?_); (case vh => exact rfl))
  | with_reducible refine' Rd.ipI ?_
  | with_reducible refine' Rd.blV ?_
  | with_reducible refine' Rd.notVL ?_
  | with_reducible refine' Rd.andT ?_
  | with_reducible refine' Rd.orT ?_
  | with_reducible refine' Rd.notT ?_
  | with_reducible refine' Rd.andV ?_
  | with_reducible refine' Rd.orV ?_
  | with_reducible refine' Rd.notV ?_
  | with_reducible refine' Rd.ifE ?_
  | ((with_reducible refine' Rd.eqS ?vh ?_); (case vh => exact rfl))
  | ((with_reducible refine' Rd.neS ?vh ?_); (case vh => exact rfl))
  | with_reducible refine' Rd.par ?_
  | with_reducible refine' Rd.parL ?_
  | with_reducible refine' Rd.un ?_
  | with_reducible refine' Rd.u1 ?_
  | with_reducible refine' Rd.sub ?_
  | ((with_reducible refine' Rd.setL ?v1 ?v2 ?v3 ?v4 ?v5 ?_); (case v1 => assumption); (case v2 => walk_at "mem"); (case v3 => walk_at "at"); (case v4 => walk_at "put"); (case v5 => walk_at "own"); intro _ _)
  | with_reducible refine' Rd.tup ?_
  | with_reducible refine' Rd.lst ?_
  | ((with_reducible refine' Rd.tupN ?v1 ?v2 ?_); (case v1 => assumption); (case v2 => simp only [List.length_cons, List.length_nil]; decide); intro _ _ _ _)
  | ((with_reducible refine' Rd.lstN ?v1 ?v2 ?_); (case v1 => assumption); (case v2 => simp only [List.length_cons, List.length_nil]; decide); intro _ _ _ _)
  | with_reducible refine' Rd.ret ?_
  | with_reducible refine' Rd.drop ?_
  | with_reducible refine' Rd.retN ?_
  | with_reducible refine' Rd.next ?_
  | with_reducible refine' Rd.brk ?_
  | with_reducible refine' Rd.cont ?_
  | with_reducible refine' Rd.call ?_
  | walk_at "ask"
  | with_reducible refine' Rd.bm ?_
  | ((with_reducible refine' Rd.bmL ?v1 ?v2 ?_); (case v1 => assumption); (case v2 => walk_at "mem"))
  | ((with_reducible refine' Rd.app ?v1 ?v2 ?v3 ?v4 ?v5 ?_); (case v1 => assumption); (case v2 => walk_at "mem"); (case v3 => simp only [List.length_cons, List.length_nil, List.length_append]; omega); (case v4 => walk_at "put"); (case v5 => walk_at "own"); intro _ _)
  | with_reducible refine' Rd.asgT ?_
  | ((with_reducible refine' Rd.gtup ?v1 ?v2 ?v3 ?_); (case v1 => assumption); (case v2 => walk_at "mem"); (case v3 => exact rfl))
  | with_reducible refine' Rd.gcons ?_
  | with_reducible refine' Rd.gname ?_
  | with_reducible refine' Rd.gnil ?_
  | with_reducible refine' Rd.sl ?_
  | with_reducible refine' Rd.noPart ?_
  | with_reducible refine' Rd.part ?_
  | with_reducible refine' Rd.prt ?_
  | with_reducible refine' Rd.isB ?_
  | ((with_reducible refine' Rd.wp ?vh ?_); (case vh => exact rfl))
  | with_reducible refine' Rd.makeK ?_
  | with_reducible refine' Rd.meth ?_
  | ((with_reducible refine' Rd.catL ?v1 ?v2 ?v3 ?v4 ?_); (case v1 => assumption); (case v2 => walk_at "mem"); (case v3 => walk_at "mem"); (case v4 => simp only [List.length_cons, List.length_nil, List.length_append]; omega); intro _ _ _ _)
  | with_reducible refine' Rd.dnew ?_
  | ((with_reducible refine' Rd.dnewL ?v1 ?_); (case v1 => assumption); intro _ _ _ _)
  | with_reducible refine' Rd.lc ?_
  | with_reducible refine' Rd.wZ ?_
  | with_reducible refine' Rd.tYesH ?_
  | with_reducible refine' Rd.fmt ?_
  | with_reducible refine' Rd.joined ?_
  | with_reducible refine' Rd.jsNil ?_
  | with_reducible refine' Rd.jsCons ?_
  | ((with_reducible refine' Rd.isiT ?v1 ?v2 ?v3 ?v4 ?v5 ?_); (case v1 => assumption); (case v2 => walk_at "mem"); (case v3 => walk_at "ty"); (case v4 => first | exact .cons (.ty _) (.cons (.ty _) .nil) | exact .cons (.ty _) (.cons (.ty _) (.cons (.ty _) (.cons (.ty _) .nil))) | exact .cons (.ty _) (.cons (.ty _) (.cons (.ty _) .nil))); (case v5 => walk_at "kitA"))
  | with_reducible refine' Rd.forS ?_
  | with_reducible refine' Rd.wEnT ?_
  | ((with_reducible refine' Rd.wEnTL ?v1 ?v2 ?_); (case v1 => assumption); (case v2 => walk_at "mem"))
  | with_reducible refine' Rd.wL ?_
  | ((with_reducible refine' Rd.wLL ?v1 ?v2 ?_); (case v1 => assumption); (case v2 => walk_at "mem"))
  | with_reducible refine' Rd.wT ?_
  | ((with_reducible refine' Rd.wTL ?v1 ?v2 ?_); (case v1 => assumption); (case v2 => walk_at "mem"))
  | with_reducible refine' Rd.wR1 ?_
  | ((with_reducible refine' Rd.wR1L ?v1 ?v2 ?_); (case v1 => omega); (case v2 => omega))
  | with_reducible refine' Rd.wR2 ?_
  | ((with_reducible refine' Rd.wR2L ?v1 ?_); (case v1 => omega)))
local macro_rules | `(tactic| walk_at "rd") => `(tactic| repeat (walk_at "rd1"))

section
variable {P : Program} {w : World} {K : PySem.W.Frag} {mg : Str → Option Value} {base : Heap}
theorem ExL.kp {H H' H'' : Hp} {x : V} (k : ∀ b o, H b = none → H' b = some o → H'' b = some o) : ∀ {cs : List (Str × Str)} {as : List Addr}, ExL K H H' x cs as → ExL K H H'' x cs as
  | [], [], _ => trivial
  | _ :: _, _ :: _, ⟨⟨h1, d, h0, h2, h3⟩, h4⟩ => ⟨⟨h1, d, h0, k _ _ h1 h2, k _ _ h0 h3⟩, ExL.kp k h4⟩
  | [], _ :: _, h => h.elim
  | _ :: _, [], h => h.elim
theorem ExL.rebase {H H' H'' : Hp} {x : V} (k : ∀ b, H b = none → H'' b = none) : ∀ {cs : List (Str × Str)} {as : List Addr}, ExL K H H' x cs as → ExL K H'' H' x cs as
  | [], [], _ => trivial
  | _ :: _, _ :: _, ⟨⟨h1, d, h0, h2, h3⟩, h4⟩ => ⟨⟨k _ h1, d, k _ h0, h2, h3⟩, ExL.rebase k h4⟩
  | [], _ :: _, h => h.elim
  | _ :: _, [], h => h.elim
def spHeld (K : PySem.W.Frag) : Sp := fun vs H Q _ => ∃ (x : V) (p : Addr) (as : List Addr) (H0 : Hp), vs = [.ref p] ∧ H p = some (.lst (as.map V.ref)) ∧ ExL K H0 H x oneL as ∧ ∀ r H', H r = none → Stt H [] [(r, Is (.lst (List.replicate 11 x)))] H' → Q (.ref r) H'
local macro_rules | `(tactic| walk_at "ask") => `(tactic| first
  | with_reducible refine' Rd.exF ?_
  | ((with_reducible refine' Rd.ixLs ?v1 ?v2 ?_); (case v1 => exact (Stt.upL (by assumption) (by assumption))); (case v2 => exact rfl))
  | ((with_reducible refine' exF_ask ?v1 ?v2 ?v3 ?v4 ?v5 ?v6 ?_); (case v1 => assumption); (case v2 => assumption); (case v3 => assumption); (case v4 => assumption); (case v5 => assumption); (case v6 => exact rfl)))
theorem ok_l_held (T : Txt K mg) : FnOk P w K mg base CX0 2 (He.fAd K ("_law_held", none)) T.fd_l_held ["_law_made"] (spHeld K) := by
  refine T.F_l_held.ok sc_l_held (fun vs H Q E h => ?_) (fun cdv A outer s H vs Q E hr h => ?_)
  · obtain ⟨x, p, as, H0, rfl, _⟩ := h
    rfl
  · obtain ⟨x, p, as, H0, rfl, hp, hx, q⟩ := h
    refine ⟨_, PSs.nox (pss_cons (ps_asg (pe_lst (pa_cons (pe_exF (pe_ix ix_list (pv 0) pe_int (fun _ _ => rfl))) (pa_cons (pe_exF (pe_ix ix_list (pv 0) pe_int (fun _ _ => rfl))) (pa_cons (pe_exF (pe_ix ix_list (pv 0) pe_int (fun _ _ => rfl))) (pa_cons (pe_exF (pe_ix ix_list (pv 0) pe_int (fun _ _ => rfl))) (pa_cons (pe_exF (pe_ix ix_list (pv 0) pe_int (fun _ _ => rfl))) (pa_cons (pe_exF (pe_ix ix_list (pv 0) pe_int (fun _ _ => rfl))) pa_nil))))))) (pg_name (i := 1) sc_l_held.nd rfl (by first | exact Or.inl rfl | exact Or.inr rfl)))
  (pss_one (ps_ret (pe_op op_cat (pv 1) (pe_lst (pa_cons (pe_exF (pe_ix ix_list (pv 0) pe_int (fun _ _ => rfl))) (pa_cons (pe_exF (pe_ix ix_list (pv 0) pe_int (fun _ _ => rfl))) (pa_cons (pe_exF (pe_ix ix_list (pv 0) pe_int (fun _ _ => rfl))) (pa_cons (pe_exF (pe_ix ix_list (pv 0) pe_int (fun _ _ => rfl))) (pa_cons (pe_exF (pe_ix ix_list (pv 0) pe_int (fun _ _ => rfl))) pa_nil)))))))))), ?_⟩
    walk_at "k"
    match as, hx with
    | [a0, a1, a2, a3, a4, a5, a6, a7, a8, a9, a10], ⟨⟨_, d0, _, x0, y0⟩, ⟨_, d1, _, x1, y1⟩, ⟨_, d2, _, x2, y2⟩, ⟨_, d3, _, x3, y3⟩, ⟨_, d4, _, x4, y4⟩, ⟨_, d5, _, x5, y5⟩, ⟨_, d6, _, x6, y6⟩, ⟨_, d7, _, x7, y7⟩, ⟨_, d8, _, x8, y8⟩, ⟨_, d9, _, x9, y9⟩, ⟨_, d10, _, x10, y10⟩, _⟩ =>
      have t0 := T.x_BadPart.xf
      have n0 := T.a_BadPart_part
      have t1 := T.x_BadText.xf
      have n1 := T.a_BadText_line
      have t2 := T.x_BadTask.xf
      have n2 := T.a_BadTask_index
      have t3 := T.x_BadCounter.xf
      have n3 := T.a_BadCounter_index
      have t4 := T.x_BadLate.xf
      have n4 := T.a_BadLate_late
      have t5 := T.x_UnknownTask.xf
      have n5 := T.a_UnknownTask_name
      have t6 := T.x_BadPlace.xf
      have n6 := T.a_BadPlace_place
      have t7 := T.x_BadEvent.xf
      have n7 := T.a_BadEvent_index
      have t8 := T.x_BadShift.xf
      have n8 := T.a_BadShift_shift
      have t9 := T.x_BadWeights.xf
      have n9 := T.a_BadWeights_index
      have t10 := T.x_BadWord.xf
      have n10 := T.a_BadWord_word
      have hS : SqL K H p [V.ref a0, V.ref a1, V.ref a2, V.ref a3, V.ref a4, V.ref a5, V.ref a6, V.ref a7, V.ref a8, V.ref a9, V.ref a10] := SqL.of hp
      clear hp
      have s0 : Stt H [] [] H := Stt.nil
      walk_at "rd"
      exact q _ _ (by assumption) (Stt.sub (by assumption) (List.Sublist.cons₂ _ (List.nil_sublist _)))
end
section
variable {P : Program} {w : World} {K : PySem.W.Frag} {mg : Str → Option Value} {base : Heap}
theorem ExAt.kp {H H' : Hp} {a D : Addr} (k : Kp [] H H') (h : ExAt H a D) : ExAt H' a D := by
  rcases h with h | ⟨d, fs, h1, h2⟩
  · exact .inl (k.get List.not_mem_nil h)
  · exact .inr ⟨d, fs, k.get List.not_mem_nil h1, k.get List.not_mem_nil h2⟩
theorem isx_ask {H0 H : Hp} {l : Led} {a D : Addr} {c : V} {u : Value} {b : Bool} {Q : VK} (s : Stt H0 [] l H) (hC : ExcC K D) (hA : ExAt H0 a D) (cv : ClsV c u) (e : PySem.W.kitOne K (.ref D) u = some b) (k : Q (.bl b) H) : rIsX K [.ref a, c] H Q :=
  ⟨a, D, c, u, b, rfl, hC, ExAt.kp s.keep hA, cv, e, k⟩
def cls14 : List Str := ["BadPart", "BadText", "BadTask", "BadCounter", "BadLate", "UnknownTask", "BadPlace", "BadEvent", "BadShift", "BadWeights", "BadWord", "BadRow", "BadWish", "BadRun"]
def spCls (K : PySem.W.Frag) : Sp := fun vs H Q _ => ∃ (x : Str) (a : Addr), x ∈ cls15 ∧ vs = [.ref a] ∧ ExAt H a (He.ga K x) ∧ ∀ r H', H r = none → Stt H [] [(r, Is (.lst (cls14.map fun y => V.bl (decide (x = y)))))] H' → Q (.ref r) H'
local macro_rules | `(tactic| walk_at "ask") => `(tactic|
  ((with_reducible refine' isx_ask ?v1 ?v2 ?v3 ?v4 ?v5 ?_); (case v1 => assumption); (case v2 => assumption); (case v3 => assumption); (case v4 => first | exact ClsV.own _ | exact ClsV.ty _); (case v5 => assumption)))
theorem ok_l_classes (T : Txt K mg) : FnOk P w K mg base CX0 2 (He.fAd K ("_law_classes", none)) T.fd_l_classes ["_law_e"] (spCls K) := by
  refine T.F_l_classes.ok sc_l_classes (fun vs H Q E h => ?_) (fun cdv A outer s H vs Q E hr h => ?_)
  · obtain ⟨x, a, _, rfl, _⟩ := h
    rfl
  · obtain ⟨x, a, hx, rfl, hA, q⟩ := h
    refine ⟨_, PSs.nox (pss_cons (ps_asg (pe_lst (pa_cons (pe_callB call_isX (by rfl) T.n_isinstance (by decide +kernel) (pa_cons (pv 0) (pa_cons (pe_glob (v := .ref (He.ga K "BadPart")) rfl T.g_BadPart RelT.ref) pa_nil))) (pa_cons (pe_callB call_isX (by rfl) T.n_isinstance (by decide +kernel) (pa_cons (pv 0) (pa_cons (pe_glob (v := .ref (He.ga K "BadText")) rfl T.g_BadText RelT.ref) pa_nil))) (pa_cons (pe_callB call_isX (by rfl) T.n_isinstance (by decide +kernel) (pa_cons (pv 0) (pa_cons (pe_glob (v := .ref (He.ga K "BadTask")) rfl T.g_BadTask RelT.ref) pa_nil))) (pa_cons (pe_callB call_isX (by rfl) T.n_isinstance (by decide +kernel) (pa_cons (pv 0) (pa_cons (pe_glob (v := .ref (He.ga K "BadCounter")) rfl T.g_BadCounter RelT.ref) pa_nil))) pa_nil))))) (pg_name (i := 1) sc_l_classes.nd rfl (by first | exact Or.inl rfl | exact Or.inr rfl)))
  (pss_cons (ps_asg (pe_op op_cat (pv 1) (pe_lst (pa_cons (pe_callB call_isX (by rfl) T.n_isinstance (by decide +kernel) (pa_cons (pv 0) (pa_cons (pe_glob (v := .ref (He.ga K "BadLate")) rfl T.g_BadLate RelT.ref) pa_nil))) (pa_cons (pe_callB call_isX (by rfl) T.n_isinstance (by decide +kernel) (pa_cons (pv 0) (pa_cons (pe_glob (v := .ref (He.ga K "UnknownTask")) rfl T.g_UnknownTask RelT.ref) pa_nil))) (pa_cons (pe_callB call_isX (by rfl) T.n_isinstance (by decide +kernel) (pa_cons (pv 0) (pa_cons (pe_glob (v := .ref (He.ga K "BadPlace")) rfl T.g_BadPlace RelT.ref) pa_nil))) pa_nil))))) (pg_name (i := 1) sc_l_classes.nd rfl (by first | exact Or.inl rfl | exact Or.inr rfl)))
  (pss_cons (ps_asg (pe_op op_cat (pv 1) (pe_lst (pa_cons (pe_callB call_isX (by rfl) T.n_isinstance (by decide +kernel) (pa_cons (pv 0) (pa_cons (pe_glob (v := .ref (He.ga K "BadEvent")) rfl T.g_BadEvent RelT.ref) pa_nil))) (pa_cons (pe_callB call_isX (by rfl) T.n_isinstance (by decide +kernel) (pa_cons (pv 0) (pa_cons (pe_glob (v := .ref (He.ga K "BadShift")) rfl T.g_BadShift RelT.ref) pa_nil))) (pa_cons (pe_callB call_isX (by rfl) T.n_isinstance (by decide +kernel) (pa_cons (pv 0) (pa_cons (pe_glob (v := .ref (He.ga K "BadWeights")) rfl T.g_BadWeights RelT.ref) pa_nil))) pa_nil))))) (pg_name (i := 1) sc_l_classes.nd rfl (by first | exact Or.inl rfl | exact Or.inr rfl)))
  (pss_cons (ps_asg (pe_op op_cat (pv 1) (pe_lst (pa_cons (pe_callB call_isX (by rfl) T.n_isinstance (by decide +kernel) (pa_cons (pv 0) (pa_cons (pe_glob (v := .ref (He.ga K "BadWord")) rfl T.g_BadWord RelT.ref) pa_nil))) (pa_cons (pe_callB call_isX (by rfl) T.n_isinstance (by decide +kernel) (pa_cons (pv 0) (pa_cons (pe_glob (v := .ref (He.ga K "BadRow")) rfl T.g_BadRow RelT.ref) pa_nil))) (pa_cons (pe_callB call_isX (by rfl) T.n_isinstance (by decide +kernel) (pa_cons (pv 0) (pa_cons (pe_glob (v := .ref (He.ga K "BadWish")) rfl T.g_BadWish RelT.ref) pa_nil))) pa_nil))))) (pg_name (i := 1) sc_l_classes.nd rfl (by first | exact Or.inl rfl | exact Or.inr rfl)))
  (pss_one (ps_ret (pe_op op_cat (pv 1) (pe_lst (pa_cons (pe_callB call_isX (by rfl) T.n_isinstance (by decide +kernel) (pa_cons (pv 0) (pa_cons (pe_glob (v := .ref (He.ga K "BadRun")) rfl T.g_BadRun RelT.ref) pa_nil))) pa_nil))))))))), ?_⟩
    walk_at "k"
    have hC := T.exC x hx
    have km : ∀ y ∈ cls14, PySem.W.kitOne K (.ref (He.ga K x)) (.ref (He.ga K y)) = some (decide (x = y)) := fun y hy => by
      have e1 : ∀ y ∈ cls14, y ∈ cls15 ∧ decide (y = ("LoopError" : Str)) = false := by decide +kernel
      have e := T.kitM x hx y (e1 y hy).1
      rw [(e1 y hy).2, Bool.or_false] at e
      exact e
    have k0 := km "BadPart" (by decide +kernel)
    have k1 := km "BadText" (by decide +kernel)
    have k2 := km "BadTask" (by decide +kernel)
    have k3 := km "BadCounter" (by decide +kernel)
    have k4 := km "BadLate" (by decide +kernel)
    have k5 := km "UnknownTask" (by decide +kernel)
    have k6 := km "BadPlace" (by decide +kernel)
    have k7 := km "BadEvent" (by decide +kernel)
    have k8 := km "BadShift" (by decide +kernel)
    have k9 := km "BadWeights" (by decide +kernel)
    have k10 := km "BadWord" (by decide +kernel)
    have k11 := km "BadRow" (by decide +kernel)
    have k12 := km "BadWish" (by decide +kernel)
    have k13 := km "BadRun" (by decide +kernel)
    have s0 : Stt H [] [] H := Stt.nil
    walk_at "rd"
    exact q _ _ (by assumption) (Stt.sub (by assumption) (List.Sublist.cons₂ _ (List.nil_sublist _)))
end

end
section
local macro_rules | `(tactic| walk_at "subl") => `(tactic| first | with_reducible exact List.nil_sublist _ | with_reducible exact List.Sublist.refl _ | (with_reducible refine List.Sublist.cons₂ _ ?_; walk_at "subl") | (with_reducible refine List.Sublist.cons _ ?_; walk_at "subl"))
local macro_rules | `(tactic| walk_at "k") => `(tactic| try dsimp only [L2.cxOf, L2.Cx.nox, L2.Cx.wish, L2.Cx.blk])
local macro_rules | `(tactic| walk_at "ask") => `(tactic| fail)
local macro_rules | `(tactic| walk_at "mem") => `(tactic| first | with_reducible exact List.mem_cons_self | (with_reducible apply List.mem_cons_of_mem; walk_at "mem"))
local macro_rules | `(tactic| walk_at "put") => `(tactic| first | with_reducible exact Lt.Put.head | (with_reducible apply Lt.Put.tail; walk_at "put"))
local macro_rules | `(tactic| walk_at "own") => `(tactic| first | exact Or.inr (by assumption) | exact Or.inl (by walk_at "mem"))
local macro_rules | `(tactic| walk_at "cnd") => `(tactic| first | assumption | decide | ((try dsimp only); omega) | (unfold CMul; omega) | (unfold CDiv; omega) | (unfold CPow; omega) | exact Or.inr (by decide) | exact Or.inl (by decide) | exact wide_div (b := 128) (by omega) (by omega) (by decide) (by decide))
local macro_rules | `(tactic| walk_at "at") => `(tactic| first | exact rfl | assumption)
local macro_rules | `(tactic| walk_at "kit") => `(tactic| first | assumption | exact kit_int_int | exact kit_int_bool | exact kit_int_str | exact kit_int_list | exact kit_int_tuple | exact kit_int_dict | exact kit_bool_int | exact kit_bool_bool | exact kit_bool_str | exact kit_bool_list | exact kit_bool_tuple | exact kit_bool_dict | exact kit_str_int | exact kit_str_bool | exact kit_str_str | exact kit_str_list | exact kit_str_tuple | exact kit_str_dict | exact kit_list_int | exact kit_list_bool | exact kit_list_str | exact kit_list_list | exact kit_list_tuple | exact kit_list_dict | exact kit_tuple_int | exact kit_tuple_bool | exact kit_tuple_str | exact kit_tuple_list | exact kit_tuple_tuple | exact kit_tuple_dict | exact kit_dict_int | exact kit_dict_bool | exact kit_dict_str | exact kit_dict_list | exact kit_dict_tuple | exact kit_dict_dict | exact kit_NoneType_int | exact kit_NoneType_bool | exact kit_NoneType_str | exact kit_NoneType_list | exact kit_NoneType_tuple | exact kit_NoneType_dict)
local macro_rules | `(tactic| walk_at "kitA") => `(tactic| first | assumption | exact kitA_lt_int | exact kitA_lt_bool | exact kitA_lt_str | exact kitA_lt_list | exact kitA_lt_tuple | exact kitA_lt_dict | exact kitA_lt_NoneType | exact kitA_bilt_int | exact kitA_bilt_bool | exact kitA_bilt_str | exact kitA_bilt_list | exact kitA_bilt_tuple | exact kitA_bilt_dict | exact kitA_bilt_NoneType)
local macro_rules | `(tactic| walk_at "ty") => `(tactic| first | exact .base (.int _) | exact .base (.bl _) | exact .base (.str _) | exact .base .non | exact .base (.lst (Stt.get (by assumption) (by walk_at "mem"))) | exact .base (.tup (Stt.get (by assumption) (by walk_at "mem"))) | exact .base (.dK (Stt.get (by assumption) (by walk_at "mem"))) | exact sqL_ty (Stt.upL (by assumption) (by assumption)) | exact sqT_ty (Stt.upT (by assumption) (by assumption)) | exact InsT.ty (by assumption) (Stt.get (by assumption) (by walk_at "mem")) | assumption)
local macro_rules | `(tactic| walk_at "rd1") => `(tactic| first
  | with_reducible refine' Rd.seq ?_
  | with_reducible refine' Rd.asg ?_
  | ((with_reducible refine' Rd.var ?vh ?_); (case vh => exact rfl))
  | with_reducible refine' Rd.con ?_
  | with_reducible refine' Rd.op ?_
  | with_reducible refine' Rd.i0 ?_
  | ((with_reducible refine' Rd.ic ?vh ?_); (case vh => walk_at "cnd"))
  | ((with_reducible refine' Rd.ixL ?v1 ?v2 ?v3 ?_); (case v1 => assumption); (case v2 => walk_at "mem"); (case v3 => walk_at "at"))
  | ((with_reducible refine' Rd.ixT ?v1 ?v2 ?v3 ?_); (case v1 => assumption); (case v2 => walk_at "mem"); (case v3 => walk_at "at"))
  | ((with_reducible refine' Rd.ixD2 ?v1 ?v2 ?_); (case v1 => assumption); (case v2 => walk_at "mem"); intro _)
  | ((with_reducible refine' Rd.ixD3 ?v1 ?v2 ?_); (case v1 => assumption); (case v2 => walk_at "mem"); intro _)
  | ((with_reducible refine' Rd.setD2 ?v1 ?v2 ?v3 ?v4 ?_); (case v1 => assumption); (case v2 => walk_at "mem"); (case v3 => walk_at "put"); (case v4 => walk_at "own"); intro _ _)
  | ((with_reducible refine' Rd.isi ?v1 ?v2 ?v3 ?_); (case v1 => walk_at "ty"); (case v2 => first | exact ClsV.ty _ | exact ClsV.own _); (case v3 => walk_at "kit"))
  | with_reducible refine' Rd.fld ?_
  | ((with_reducible refine' Rd.fldI ?v1 ?v2 ?v3 ?v4 ?v5 ?_); (case v1 => assumption); (case v2 => walk_at "mem"); (case v3 => assumption); (case v4 => assumption); (case v5 => walk_at "at"))
  | with_reducible refine' Rd.sfld ?_
  | ((with_reducible refine' Rd.sfldI ?v1 ?v2 ?v3 ?v4 ?v5 ?v6 ?v7 ?_); (case v1 => assumption); (case v2 => walk_at "mem"); (case v3 => assumption); (case v4 => assumption); (case v5 => first | decide | (refine Nat.lt_of_le_of_lt (putF_len _ _ _) ?_; decide)); (case v6 => walk_at "put"); (case v7 => walk_at "own"); intro _ _)
  | with_reducible refine' Rd.make ?_
  | with_reducible refine' Rd.gcd ?_
  | with_reducible refine' Rd.cons ?_
  | with_reducible refine' Rd.nil ?_
  | with_reducible refine' Rd.cb ?_
  | with_reducible refine' Rd.intI ?_
  | with_reducible refine' Rd.absI ?_
  | ((with_reducible refine' Rd.lenL ?v1 ?v2 ?_); (case v1 => assumption); (case v2 => walk_at "mem"))
  | ((with_reducible refine' Rd.lenT ?v1 ?v2 ?_); (case v1 => assumption); (case v2 => walk_at "mem"))
  | ((with_reducible refine' Rd.lenBL ?v1 ?v2 ?v3 ?_); (case v1 => assumption); (case v2 => assumption); (case v3 => first | exact List.not_mem_nil | assumption))
  | ((with_reducible refine' Rd.lenBT ?v1 ?v2 ?v3 ?_); (case v1 => assumption); (case v2 => assumption); (case v3 => first | exact List.not_mem_nil | assumption))
  | ((with_reducible refine' Rd.ixBL ?v1 ?v2 ?v4 ?v3 ?_); (case v1 => assumption); (case v2 => assumption); (case v4 => first | exact List.not_mem_nil | assumption); (case v3 => walk_at "at"))
  | ((with_reducible refine' Rd.ixBT ?v1 ?v2 ?v4 ?v3 ?_); (case v1 => assumption); (case v2 => assumption); (case v4 => first | exact List.not_mem_nil | assumption); (case v3 => walk_at "at"))
  | ((with_reducible refine' Rd.brI ?vh ?_); (case vh => with_reducible exact rfl))
  | with_reducible refine' Rd.ifS ?_
  | with_reducible refine' Rd.test ?_
  | with_reducible refine' Rd.tbl ?_
  | with_reducible refine' Rd.bl ?_
  | with_reducible refine' Rd.brTT ?_
  | with_reducible refine' Rd.brFF ?_
  | with_reducible refine' Rd.brN ?_
  | ((with_reducible refine' Rd.aug ?vh ?_); (case vh => exact rfl))
  | with_reducible refine' Rd.ipI ?_
  | with_reducible refine' Rd.blV ?_
  | with_reducible refine' Rd.notVL ?_
  | with_reducible refine' Rd.andT ?_
  | with_reducible refine' Rd.orT ?_
  | with_reducible refine' Rd.notT ?_
  | with_reducible refine' Rd.andV ?_
  | with_reducible refine' Rd.orV ?_
  | with_reducible refine' Rd.notV ?_
  | with_reducible refine' Rd.ifE ?_
  | ((with_reducible refine' Rd.eqS ?vh ?_); (case vh => exact rfl))
  | ((with_reducible refine' Rd.neS ?vh ?_); (case vh => exact rfl))
  | with_reducible refine' Rd.par ?_
  | with_reducible refine' Rd.parL ?_
  | with_reducible refine' Rd.un ?_
  | with_reducible refine' Rd.u1 ?_
  | with_reducible refine' Rd.sub ?_
  | ((with_reducible refine' Rd.setL ?v1 ?v2 ?v3 ?v4 ?v5 ?_); (case v1 => assumption); (case v2 => walk_at "mem"); (case v3 => walk_at "at"); (case v4 => walk_at "put"); (case v5 => walk_at "own"); intro _ _)
  | with_reducible refine' Rd.tup ?_
  | with_reducible refine' Rd.lst ?_
  | ((with_reducible refine' Rd.tupN ?v1 ?v2 ?_); (case v1 => assumption); (case v2 => simp only [List.length_cons, List.length_nil]; decide); intro _ _ _ _)
  | ((with_reducible refine' Rd.lstN ?v1 ?v2 ?_); (case v1 => assumption); (case v2 => simp only [List.length_cons, List.length_nil]; decide); intro _ _ _ _)
  | with_reducible refine' Rd.ret ?_
  | with_reducible refine' Rd.drop ?_
  | with_reducible refine' Rd.retN ?_
  | with_reducible refine' Rd.next ?_
  | with_reducible refine' Rd.brk ?_
  | with_reducible refine' Rd.cont ?_
  | with_reducible refine' Rd.call ?_
  | walk_at "ask"
  | with_reducible refine' Rd.bm ?_
  | ((with_reducible refine' Rd.bmL ?v1 ?v2 ?_); (case v1 => assumption); (case v2 => walk_at "mem"))
  | ((with_reducible refine' Rd.app ?v1 ?v2 ?v3 ?v4 ?v5 ?_); (case v1 => assumption); (case v2 => walk_at "mem"); (case v3 => simp only [List.length_cons, List.length_nil, List.length_append]; omega); (case v4 => walk_at "put"); (case v5 => walk_at "own"); intro _ _)
  | with_reducible refine' Rd.asgT ?_
  | ((with_reducible refine' Rd.gtup ?v1 ?v2 ?v3 ?_); (case v1 => assumption); (case v2 => walk_at "mem"); (case v3 => exact rfl))
  | with_reducible refine' Rd.gcons ?_
  | with_reducible refine' Rd.gname ?_
  | with_reducible refine' Rd.gnil ?_
  | with_reducible refine' Rd.sl ?_
  | with_reducible refine' Rd.noPart ?_
  | with_reducible refine' Rd.part ?_
  | with_reducible refine' Rd.prt ?_
  | with_reducible refine' Rd.isB ?_
  | ((with_reducible refine' Rd.wp ?vh ?_); (case vh => exact rfl))
  | with_reducible refine' Rd.makeK ?_
  | with_reducible refine' Rd.meth ?_
  | ((with_reducible refine' Rd.catL ?v1 ?v2 ?v3 ?v4 ?_); (case v1 => assumption); (case v2 => walk_at "mem"); (case v3 => walk_at "mem"); (case v4 => simp only [List.length_cons, List.length_nil, List.length_append]; omega); intro _ _ _ _)
  | with_reducible refine' Rd.dnew ?_
  | ((with_reducible refine' Rd.dnewL ?v1 ?_); (case v1 => assumption); intro _ _ _ _)
  | with_reducible refine' Rd.lc ?_
  | with_reducible refine' Rd.wZ ?_
  | with_reducible refine' Rd.tYesH ?_
  | with_reducible refine' Rd.fmt ?_
  | with_reducible refine' Rd.joined ?_
  | with_reducible refine' Rd.jsNil ?_
  | with_reducible refine' Rd.jsCons ?_
  | ((with_reducible refine' Rd.isiT ?v1 ?v2 ?v3 ?v4 ?v5 ?_); (case v1 => assumption); (case v2 => walk_at "mem"); (case v3 => walk_at "ty"); (case v4 => first | exact .cons (.ty _) (.cons (.ty _) .nil) | exact .cons (.ty _) (.cons (.ty _) (.cons (.ty _) (.cons (.ty _) .nil))) | exact .cons (.ty _) (.cons (.ty _) (.cons (.ty _) .nil))); (case v5 => walk_at "kitA"))
  | with_reducible refine' Rd.forS ?_
  | with_reducible refine' Rd.wEnT ?_
  | ((with_reducible refine' Rd.wEnTL ?v1 ?v2 ?_); (case v1 => assumption); (case v2 => walk_at "mem"))
  | with_reducible refine' Rd.wL ?_
  | ((with_reducible refine' Rd.wLL ?v1 ?v2 ?_); (case v1 => assumption); (case v2 => walk_at "mem"))
  | with_reducible refine' Rd.wT ?_
  | ((with_reducible refine' Rd.wTL ?v1 ?v2 ?_); (case v1 => assumption); (case v2 => walk_at "mem"))
  | with_reducible refine' Rd.wR1 ?_
  | ((with_reducible refine' Rd.wR1L ?v1 ?v2 ?_); (case v1 => omega); (case v2 => omega))
  | with_reducible refine' Rd.wR2 ?_
  | ((with_reducible refine' Rd.wR2L ?v1 ?_); (case v1 => omega)))
local macro_rules | `(tactic| walk_at "rd") => `(tactic| repeat (walk_at "rd1"))

section
variable {P : Program} {w : World} {K : PySem.W.Frag} {mg : Str → Option Value} {base : Heap}
/-! ### three objects, drawn one after the other; the lists among them are grown -/
def isL (H : Hp) (v : V) : List Addr := match v with
  | .ref a => (match H a with
    | some (.lst _) => [a]
    | _ => [])
  | _ => []
theorem isL_mem {H : Hp} {v : V} {b : Addr} (h : b ∈ isL H v) : v = .ref b ∧ ∃ xs, H b = some (.lst xs) := by
  unfold isL at h
  split at h
  · split at h
    · rename_i a xs e
      cases List.mem_singleton.mp h
      exact ⟨rfl, xs, e⟩
    · cases h
  · cases h
theorem isL_of {H : Hp} {b : Addr} {xs : List V} (e : H b = some (.lst xs)) : b ∈ isL H (.ref b) := by
  unfold isL
  simp only [e, List.mem_singleton]
def Sb (G H : Hp) (S : List Addr) : Prop := ∀ b o, G b = some o → b ∉ S ∧ H b = some o
inductive Rt (S : List Addr) (n : Nat) (H : Hp) : V → Prop where
  | scl {v : V} (h : scl v = true) : Rt S n H v
  | lst {p : Addr} {xs : List V} (e : H p = some (.lst xs)) (hp : p ∈ S) (hl : xs.length ≤ n) (r : ∀ x ∈ xs, ∃ G, Sb G H S ∧ Sm G 1 x x) : Rt S n H (.ref p)
  | tup {p : Addr} {xs : List V} (e : H p = some (.tup xs)) (hp : p ∉ S) (hl : xs.length ≤ 3) (r : ∀ x ∈ xs, ∃ G, Sb G H S ∧ Sm G 1 x x) : Rt S n H (.ref p)
  | dct {p : Addr} {z : Str} {q : Addr} (e : H p = some (.dK [(.inr z, .ref q)])) (hp : p ∉ S) : Rt S n H (.ref p)
theorem rt_of {S : List Addr} {H Ha Hz : Hp} {v : V} (h : Lv H Ha 2 v) (k : ∀ b o, H b = none → Ha b = some o → Hz b = some o) (hS : ∀ b ∈ S, (v = .ref b ∧ ∃ xs, Hz b = some (.lst xs)) ∨ H b ≠ none ∨ Ha b = none)
    (hv : ∀ a xs, v = .ref a → Hz a = some (.lst xs) → a ∈ S) : Rt S 3 Hz v := by
  have out : ∀ {b : Addr} {o : HO}, H b = none → Ha b = some o → (v = .ref b → ∀ xs, o ≠ .lst xs) → b ∉ S := fun {b o} h1 h2 h3 m => by
    rcases hS b m with ⟨e, xs, ex⟩ | e | e
    · rw [k _ _ h1 h2] at ex
      exact h3 e xs (Option.some.inj ex)
    · exact e h1
    · cases e.symm.trans h2
  cases h with
  | scl h => exact .scl h
  | @lst n p xs hp e hl r =>
    refine .lst (k _ _ hp e) (hv p xs rfl (k _ _ hp e)) hl fun x hx => ?_
    obtain ⟨G, f, z⟩ := r x hx
    refine ⟨G, fun b o eb => ?_, z⟩
    obtain ⟨f1, f2, f3⟩ := f b o eb
    exact ⟨out f1 f3 fun e' => absurd (V.ref.inj e').symm f2, k _ _ f1 f3⟩
  | @tup n p xs hp e hl r =>
    refine .tup (k _ _ hp e) (out hp e fun _ xs e' => by cases e') hl fun x hx => ?_
    obtain ⟨G, f, z⟩ := r x hx
    refine ⟨G, fun b o eb => ?_, z⟩
    obtain ⟨f1, f2, f3⟩ := f b o eb
    exact ⟨out f1 f3 fun e' => absurd (V.ref.inj e').symm f2, k _ _ f1 f3⟩
  | @dct n p z q hp e => exact .dct (k _ _ hp e) (out hp e fun _ xs e' => by cases e')
theorem Rt.kp {S : List Addr} {n : Nat} {H H' : Hp} {v : V} (k : Kp [] H H') (h : Rt S n H v) : Rt S n H' v := by
  have kk : ∀ b o, H b = some o → H' b = some o := fun b o e => k.get List.not_mem_nil e
  have ks : ∀ {G}, Sb G H S → Sb G H' S := fun f b o e => ⟨(f b o e).1, kk _ _ (f b o e).2⟩
  cases h with
  | scl h => exact .scl h
  | lst e hp hl r => exact .lst (kk _ _ e) hp hl fun x hx => by obtain ⟨G, f, z⟩ := r x hx; exact ⟨G, ks f, z⟩
  | tup e hp hl r => exact .tup (kk _ _ e) hp hl fun x hx => by obtain ⟨G, f, z⟩ := r x hx; exact ⟨G, ks f, z⟩
  | dct e hp => exact .dct (kk _ _ e) hp
theorem Rt.more {S : List Addr} {n m : Nat} {H : Hp} {v : V} (l : n ≤ m) (h : Rt S n H v) : Rt S m H v := by
  cases h with
  | scl h => exact .scl h
  | lst e hp hl r => exact .lst e hp (Nat.le_trans hl l) r
  | tup e hp hl r => exact .tup e hp hl r
  | dct e hp => exact .dct e hp
theorem Rt.app {S : List Addr} {n : Nat} {H : Hp} {v : V} {a : Addr} {xs : List V} {z : Str} (ha : a ∈ S) (ea : H a = some (.lst xs)) (h : Rt S n H v) : Rt S (n + 1) (upd H a (.lst (xs ++ [.str z]))) v := by
  have kk : ∀ b o, b ∉ S → H b = some o → upd H a (.lst (xs ++ [.str z])) b = some o := fun b o hb e => by
    rw [upd_ne (fun q : b = a => hb (by rw [q]; exact ha))]
    exact e
  have ks : ∀ {G}, Sb G H S → Sb G (upd H a (.lst (xs ++ [.str z]))) S := fun f b o e => ⟨(f b o e).1, kk _ _ (f b o e).1 (f b o e).2⟩
  cases h with
  | scl h => exact .scl h
  | @lst p ys e hp hl r =>
    by_cases hq : p = a
    · subst hq
      cases e.symm.trans ea
      refine .lst upd_same hp (by simp; omega) fun x hx => ?_
      rcases List.mem_append.mp hx with hx | hx
      · obtain ⟨G, f, z⟩ := r x hx
        exact ⟨G, ks f, z⟩
      · cases List.mem_singleton.mp hx
        exact ⟨fun _ => none, fun b o e => (nomatch e), .str 1 z⟩
    · refine .lst (by rw [upd_ne hq]; exact e) hp (by omega) fun x hx => ?_
      obtain ⟨G, f, z⟩ := r x hx
      exact ⟨G, ks f, z⟩
  | tup e hp hl r => exact .tup (kk _ _ hp e) hp hl fun x hx => by obtain ⟨G, f, z⟩ := r x hx; exact ⟨G, ks f, z⟩
  | dct e hp => exact .dct (kk _ _ hp e) hp
theorem Rt.sm {S : List Addr} {n : Nat} {H : Hp} {v : V} (l : n ≤ 1000) (h : Rt S n H v) : Sm H 2 v v := by
  cases h with
  | scl h => exact sm_scl h
  | lst e hp hl r => exact sm_lst e (Nat.le_trans hl l) fun x hx => by obtain ⟨G, f, z⟩ := r x hx; exact z.mono fun b o e => (f b o e).2
  | tup e hp hl r => exact sm_tup e (by omega) fun x hx => by obtain ⟨G, f, z⟩ := r x hx; exact z.mono fun b o e => (f b o e).2
  | dct e hp => exact .dct _ e (by simp) (by simp [flatR])
/-- what isinstance(v, list) says of it -/
theorem Rt.ty {S : List Addr} {n : Nat} {H : Hp} {v : V} (h : Rt S n H v) : (∃ t, TyX K H v t ∧ PySem.W.kitOne K t (.type "list") = some false) ∨ (∃ p xs, v = .ref p ∧ TyX K H v (.type "list") ∧ p ∈ S ∧ H p = some (.lst xs) ∧ xs.length ≤ n) := by
  cases h with
  | scl h =>
    cases v with
    | non => exact .inl ⟨_, .base .non, kit_NoneType_list⟩
    | bl b => exact .inl ⟨_, .base (.bl b), kit_bool_list⟩
    | int i => exact .inl ⟨_, .base (.int i), kit_int_list⟩
    | str z => exact .inl ⟨_, .base (.str z), kit_str_list⟩
    | _ => cases h
  | lst e hp hl r => exact .inr ⟨_, _, rfl, .base (.lst e), hp, e, hl⟩
  | tup e hp hl r => exact .inl ⟨_, .base (.tup e), kit_tuple_list⟩
  | dct e hp => exact .inl ⟨_, .base (.dK e), kit_dict_list⟩
/-- the three together -/
theorem rt_three {H Ha Hb Hz : Hp} {st : Addr} {x y z : V} (hst : H st ≠ none) (hx : Lv H Ha 2 x) (hy : Lv Ha Hb 2 y) (hz : Lv Hb Hz 2 z) (k0 : Kp [st] H Ha) (k1 : Kp [st] Ha Hb) (k2 : Kp [st] Hb Hz) :
    ∃ S, (∀ b ∈ S, H b = none ∧ Hz b ≠ none) ∧ Rt S 3 Hz x ∧ Rt S 3 Hz y ∧ Rt S 3 Hz z := by
  have up : ∀ {A B : Hp}, Kp [st] A B → ∀ {b : Addr}, A b ≠ none → B b ≠ none := fun {A B} k {b} h q => h (Kp.none k q)
  have sa := up k0 hst
  have sb := up k1 sa
  have new : ∀ {A B : Hp} {v : V} {b : Addr}, Lv A B 2 v → v = .ref b → A b = none ∧ B b ≠ none := fun {A B v b} h e => by
    cases h with
    | scl h => subst e; cases h
    | lst hp e' _ _ => cases e; exact ⟨hp, by rw [e']; exact fun q => nomatch q⟩
    | tup hp e' _ _ => cases e; exact ⟨hp, by rw [e']; exact fun q => nomatch q⟩
    | dct hp e' => cases e; exact ⟨hp, by rw [e']; exact fun q => nomatch q⟩
  have g0 : ∀ {A B : Hp}, Kp [st] A B → A st ≠ none → ∀ b o, b ≠ st → A b = some o → B b = some o := fun k h b o hb e => k.get (by simp [hb]) e
  refine ⟨isL Hz x ++ isL Hz y ++ isL Hz z, fun b m => ?_, ?_, ?_, ?_⟩
  · rcases List.mem_append.mp m with m | m
    · rcases List.mem_append.mp m with m | m
      · obtain ⟨e, xs, ex⟩ := isL_mem m
        exact ⟨(new hx e).1, by rw [ex]; exact fun q => nomatch q⟩
      · obtain ⟨e, xs, ex⟩ := isL_mem m
        exact ⟨k0.none (new hy e).1, by rw [ex]; exact fun q => nomatch q⟩
    · obtain ⟨e, xs, ex⟩ := isL_mem m
      exact ⟨k0.none (k1.none (new hz e).1), by rw [ex]; exact fun q => nomatch q⟩
  · refine rt_of hx (fun b o e1 e2 => ?_) (fun b m => ?_) fun a xs e1 e2 => ?_
    · have hb : b ≠ st := fun q => hst (q ▸ e1)
      exact g0 k2 sb b o hb (g0 k1 sa b o hb e2)
    · rcases List.mem_append.mp m with m | m
      · rcases List.mem_append.mp m with m | m
        · exact .inl (isL_mem m)
        · exact .inr (.inr (new hy (isL_mem m).1).1)
      · exact .inr (.inr (k1.none (new hz (isL_mem m).1).1))
    · subst e1
      exact List.mem_append_left _ (List.mem_append_left _ (isL_of e2))
  · refine rt_of hy (fun b o e1 e2 => ?_) (fun b m => ?_) fun a xs e1 e2 => ?_
    · have hb : b ≠ st := fun q => sa (q ▸ e1)
      exact g0 k2 sb b o hb e2
    · rcases List.mem_append.mp m with m | m
      · rcases List.mem_append.mp m with m | m
        · exact .inr (.inl (new hx (isL_mem m).1).2)
        · exact .inl (isL_mem m)
      · exact .inr (.inr (new hz (isL_mem m).1).1)
    · subst e1
      exact List.mem_append_left _ (List.mem_append_right _ (isL_of e2))
  · refine rt_of hz (fun b o e1 e2 => e2) (fun b m => ?_) fun a xs e1 e2 => ?_
    · rcases List.mem_append.mp m with m | m
      · rcases List.mem_append.mp m with m | m
        · exact .inr (.inl (up k1 (new hx (isL_mem m).1).2))
        · exact .inr (.inl (new hy (isL_mem m).1).2)
      · exact .inl (isL_mem m)
    · subst e1
      exact List.mem_append_right _ (isL_of e2)
end

end
section
local macro_rules | `(tactic| walk_at "subl") => `(tactic| first | with_reducible exact List.nil_sublist _ | with_reducible exact List.Sublist.refl _ | (with_reducible refine List.Sublist.cons₂ _ ?_; walk_at "subl") | (with_reducible refine List.Sublist.cons _ ?_; walk_at "subl"))
local macro_rules | `(tactic| walk_at "k") => `(tactic| try dsimp only [L2.cxOf, L2.Cx.nox, L2.Cx.wish, L2.Cx.blk])
local macro_rules | `(tactic| walk_at "ask") => `(tactic| fail)
local macro_rules | `(tactic| walk_at "mem") => `(tactic| first | with_reducible exact List.mem_cons_self | (with_reducible apply List.mem_cons_of_mem; walk_at "mem"))
local macro_rules | `(tactic| walk_at "put") => `(tactic| first | with_reducible exact Lt.Put.head | (with_reducible apply Lt.Put.tail; walk_at "put"))
local macro_rules | `(tactic| walk_at "own") => `(tactic| first | exact Or.inr (by assumption) | exact Or.inl (by walk_at "mem"))
local macro_rules | `(tactic| walk_at "cnd") => `(tactic| first | assumption | decide | ((try dsimp only); omega) | (unfold CMul; omega) | (unfold CDiv; omega) | (unfold CPow; omega) | exact Or.inr (by decide) | exact Or.inl (by decide) | exact wide_div (b := 128) (by omega) (by omega) (by decide) (by decide))
local macro_rules | `(tactic| walk_at "at") => `(tactic| first | exact rfl | assumption)
local macro_rules | `(tactic| walk_at "kit") => `(tactic| first | assumption | exact kit_int_int | exact kit_int_bool | exact kit_int_str | exact kit_int_list | exact kit_int_tuple | exact kit_int_dict | exact kit_bool_int | exact kit_bool_bool | exact kit_bool_str | exact kit_bool_list | exact kit_bool_tuple | exact kit_bool_dict | exact kit_str_int | exact kit_str_bool | exact kit_str_str | exact kit_str_list | exact kit_str_tuple | exact kit_str_dict | exact kit_list_int | exact kit_list_bool | exact kit_list_str | exact kit_list_list | exact kit_list_tuple | exact kit_list_dict | exact kit_tuple_int | exact kit_tuple_bool | exact kit_tuple_str | exact kit_tuple_list | exact kit_tuple_tuple | exact kit_tuple_dict | exact kit_dict_int | exact kit_dict_bool | exact kit_dict_str | exact kit_dict_list | exact kit_dict_tuple | exact kit_dict_dict | exact kit_NoneType_int | exact kit_NoneType_bool | exact kit_NoneType_str | exact kit_NoneType_list | exact kit_NoneType_tuple | exact kit_NoneType_dict)
local macro_rules | `(tactic| walk_at "kitA") => `(tactic| first | assumption | exact kitA_lt_int | exact kitA_lt_bool | exact kitA_lt_str | exact kitA_lt_list | exact kitA_lt_tuple | exact kitA_lt_dict | exact kitA_lt_NoneType | exact kitA_bilt_int | exact kitA_bilt_bool | exact kitA_bilt_str | exact kitA_bilt_list | exact kitA_bilt_tuple | exact kitA_bilt_dict | exact kitA_bilt_NoneType)
local macro_rules | `(tactic| walk_at "ty") => `(tactic| first | exact .base (.int _) | exact .base (.bl _) | exact .base (.str _) | exact .base .non | exact .base (.lst (Stt.get (by assumption) (by walk_at "mem"))) | exact .base (.tup (Stt.get (by assumption) (by walk_at "mem"))) | exact .base (.dK (Stt.get (by assumption) (by walk_at "mem"))) | exact sqL_ty (Stt.upL (by assumption) (by assumption)) | exact sqT_ty (Stt.upT (by assumption) (by assumption)) | exact InsT.ty (by assumption) (Stt.get (by assumption) (by walk_at "mem")) | assumption)
local macro_rules | `(tactic| walk_at "rd1") => `(tactic| first
  | with_reducible refine' Rd.seq ?_
  | with_reducible refine' Rd.asg ?_
  | ((with_reducible refine' Rd.var ?vh ?_); (case vh => exact rfl))
  | with_reducible refine' Rd.con ?_
  | with_reducible refine' Rd.op ?_
  | with_reducible refine' Rd.i0 ?_
  | ((with_reducible refine' Rd.ic ?vh ?_); (case vh => walk_at "cnd"))
  | ((with_reducible refine' Rd.ixL ?v1 ?v2 ?v3 ?_); (case v1 => assumption); (case v2 => walk_at "mem"); (case v3 => walk_at "at"))
  | ((with_reducible refine' Rd.ixT ?v1 ?v2 ?v3 ?_); (case v1 => assumption); (case v2 => walk_at "mem"); (case v3 => walk_at "at"))
  | ((with_reducible refine' Rd.ixD2 ?v1 ?v2 ?_); (case v1 => assumption); (case v2 => walk_at "mem"); intro _)
  | ((with_reducible refine' Rd.ixD3 ?v1 ?v2 ?_); (case v1 => assumption); (case v2 => walk_at "mem"); intro _)
  | ((with_reducible refine' Rd.setD2 ?v1 ?v2 ?v3 ?v4 ?_); (case v1 => assumption); (case v2 => walk_at "mem"); (case v3 => walk_at "put"); (case v4 => walk_at "own"); intro _ _)
  | ((with_reducible refine' Rd.isi ?v1 ?v2 ?v3 ?_); (case v1 => walk_at "ty"); (case v2 => first | exact ClsV.ty _ | exact ClsV.own _); (case v3 => walk_at "kit"))
  | with_reducible refine' Rd.fld ?_
  | ((with_reducible refine' Rd.fldI ?v1 ?v2 ?v3 ?v4 ?v5 ?_); (case v1 => assumption); (case v2 => walk_at "mem"); (case v3 => assumption); (case v4 => assumption); (case v5 => walk_at "at"))
  | with_reducible refine' Rd.sfld ?_
  | ((with_reducible refine' Rd.sfldI ?v1 ?v2 ?v3 ?v4 ?v5 ?v6 ?v7 ?_); (case v1 => assumption); (case v2 => walk_at "mem"); (case v3 => assumption); (case v4 => assumption); (case v5 => first | decide | (refine Nat.lt_of_le_of_lt (putF_len _ _ _) ?_; decide)); (case v6 => walk_at "put"); (case v7 => walk_at "own"); intro _ _)
  | with_reducible refine' Rd.make ?_
  | with_reducible refine' Rd.gcd ?_
  | with_reducible refine' Rd.cons ?_
  | with_reducible refine' Rd.nil ?_
  | with_reducible refine' Rd.cb ?_
  | with_reducible refine' Rd.intI ?_
  | with_reducible refine' Rd.absI ?_
  | ((with_reducible refine' Rd.lenL ?v1 ?v2 ?_); (case v1 => assumption); (case v2 => walk_at "mem"))
  | ((with_reducible refine' Rd.lenT ?v1 ?v2 ?_); (case v1 => assumption); (case v2 => walk_at "mem"))
  | ((with_reducible refine' Rd.lenBL ?v1 ?v2 ?v3 ?_); (case v1 => assumption); (case v2 => assumption); (case v3 => first | exact List.not_mem_nil | assumption))
  | ((with_reducible refine' Rd.lenBT ?v1 ?v2 ?v3 ?_); (case v1 => assumption); (case v2 => assumption); (case v3 => first | exact List.not_mem_nil | assumption))
  | ((with_reducible refine' Rd.ixBL ?v1 ?v2 ?v4 ?v3 ?_); (case v1 => assumption); (case v2 => assumption); (case v4 => first | exact List.not_mem_nil | assumption); (case v3 => walk_at "at"))
  | ((with_reducible refine' Rd.ixBT ?v1 ?v2 ?v4 ?v3 ?_); (case v1 => assumption); (case v2 => assumption); (case v4 => first | exact List.not_mem_nil | assumption); (case v3 => walk_at "at"))
  | ((with_reducible refine' Rd.brI ?vh ?_); (case vh => with_reducible exact rfl))
  | with_reducible refine' Rd.ifS ?_
  | with_reducible refine' Rd.test ?_
  | with_reducible refine' Rd.tbl ?_
  | with_reducible refine' Rd.bl ?_
  | with_reducible refine' Rd.brTT ?_
  | with_reducible refine' Rd.brFF ?_
  | with_reducible refine' Rd.brN ?_
  | ((with_reducible refine' Rd.aug ?vh ?_); (case vh => exact rfl))
  | with_reducible refine' Rd.ipI ?_
  | with_reducible refine' Rd.blV ?_
  | with_reducible refine' Rd.notVL ?_
  | with_reducible refine' Rd.andT ?_
  | with_reducible refine' Rd.orT ?_
  | with_reducible refine' Rd.notT ?_
  | with_reducible refine' Rd.andV ?_
  | with_reducible refine' Rd.orV ?_
  | with_reducible refine' Rd.notV ?_
  | with_reducible refine' Rd.ifE ?_
  | ((with_reducible refine' Rd.eqS ?vh ?_); (case vh => exact rfl))
  | ((with_reducible refine' Rd.neS ?vh ?_); (case vh => exact rfl))
  | with_reducible refine' Rd.par ?_
  | with_reducible refine' Rd.parL ?_
  | with_reducible refine' Rd.un ?_
  | with_reducible refine' Rd.u1 ?_
  | with_reducible refine' Rd.sub ?_
  | ((with_reducible refine' Rd.setL ?v1 ?v2 ?v3 ?v4 ?v5 ?_); (case v1 => assumption); (case v2 => walk_at "mem"); (case v3 => walk_at "at"); (case v4 => walk_at "put"); (case v5 => walk_at "own"); intro _ _)
  | with_reducible refine' Rd.tup ?_
  | with_reducible refine' Rd.lst ?_
  | ((with_reducible refine' Rd.tupN ?v1 ?v2 ?_); (case v1 => assumption); (case v2 => simp only [List.length_cons, List.length_nil]; decide); intro _ _ _ _)
  | ((with_reducible refine' Rd.lstN ?v1 ?v2 ?_); (case v1 => assumption); (case v2 => simp only [List.length_cons, List.length_nil]; decide); intro _ _ _ _)
  | with_reducible refine' Rd.ret ?_
  | with_reducible refine' Rd.drop ?_
  | with_reducible refine' Rd.retN ?_
  | with_reducible refine' Rd.next ?_
  | with_reducible refine' Rd.brk ?_
  | with_reducible refine' Rd.cont ?_
  | with_reducible refine' Rd.call ?_
  | walk_at "ask"
  | with_reducible refine' Rd.bm ?_
  | ((with_reducible refine' Rd.bmL ?v1 ?v2 ?_); (case v1 => assumption); (case v2 => walk_at "mem"))
  | ((with_reducible refine' Rd.app ?v1 ?v2 ?v3 ?v4 ?v5 ?_); (case v1 => assumption); (case v2 => walk_at "mem"); (case v3 => simp only [List.length_cons, List.length_nil, List.length_append]; omega); (case v4 => walk_at "put"); (case v5 => walk_at "own"); intro _ _)
  | with_reducible refine' Rd.asgT ?_
  | ((with_reducible refine' Rd.gtup ?v1 ?v2 ?v3 ?_); (case v1 => assumption); (case v2 => walk_at "mem"); (case v3 => exact rfl))
  | with_reducible refine' Rd.gcons ?_
  | with_reducible refine' Rd.gname ?_
  | with_reducible refine' Rd.gnil ?_
  | with_reducible refine' Rd.sl ?_
  | with_reducible refine' Rd.noPart ?_
  | with_reducible refine' Rd.part ?_
  | with_reducible refine' Rd.prt ?_
  | with_reducible refine' Rd.isB ?_
  | ((with_reducible refine' Rd.wp ?vh ?_); (case vh => exact rfl))
  | with_reducible refine' Rd.makeK ?_
  | with_reducible refine' Rd.meth ?_
  | ((with_reducible refine' Rd.catL ?v1 ?v2 ?v3 ?v4 ?_); (case v1 => assumption); (case v2 => walk_at "mem"); (case v3 => walk_at "mem"); (case v4 => simp only [List.length_cons, List.length_nil, List.length_append]; omega); intro _ _ _ _)
  | with_reducible refine' Rd.dnew ?_
  | ((with_reducible refine' Rd.dnewL ?v1 ?_); (case v1 => assumption); intro _ _ _ _)
  | with_reducible refine' Rd.lc ?_
  | with_reducible refine' Rd.wZ ?_
  | with_reducible refine' Rd.tYesH ?_
  | with_reducible refine' Rd.fmt ?_
  | with_reducible refine' Rd.joined ?_
  | with_reducible refine' Rd.jsNil ?_
  | with_reducible refine' Rd.jsCons ?_
  | ((with_reducible refine' Rd.isiT ?v1 ?v2 ?v3 ?v4 ?v5 ?_); (case v1 => assumption); (case v2 => walk_at "mem"); (case v3 => walk_at "ty"); (case v4 => first | exact .cons (.ty _) (.cons (.ty _) .nil) | exact .cons (.ty _) (.cons (.ty _) (.cons (.ty _) (.cons (.ty _) .nil))) | exact .cons (.ty _) (.cons (.ty _) (.cons (.ty _) .nil))); (case v5 => walk_at "kitA"))
  | with_reducible refine' Rd.forS ?_
  | with_reducible refine' Rd.wEnT ?_
  | ((with_reducible refine' Rd.wEnTL ?v1 ?v2 ?_); (case v1 => assumption); (case v2 => walk_at "mem"))
  | with_reducible refine' Rd.wL ?_
  | ((with_reducible refine' Rd.wLL ?v1 ?v2 ?_); (case v1 => assumption); (case v2 => walk_at "mem"))
  | with_reducible refine' Rd.wT ?_
  | ((with_reducible refine' Rd.wTL ?v1 ?v2 ?_); (case v1 => assumption); (case v2 => walk_at "mem"))
  | with_reducible refine' Rd.wR1 ?_
  | ((with_reducible refine' Rd.wR1L ?v1 ?v2 ?_); (case v1 => omega); (case v2 => omega))
  | with_reducible refine' Rd.wR2 ?_
  | ((with_reducible refine' Rd.wR2L ?v1 ?_); (case v1 => omega)))
local macro_rules | `(tactic| walk_at "rd") => `(tactic| repeat (walk_at "rd1"))

section
variable {P : Program} {w : World} {K : PySem.W.Frag} {mg : Str → Option Value} {base : Heap}
theorem any_ask {H0 H : Hp} {S : List Addr} {l : Led} {st c : Addr} {ns : List Int} {Q : VK} {E : XK} (s : Stt H0 S l H) (sb : List.Sublist (dled st c ns) l) (hn : ns.length ≤ 63) (hs : st ∈ S ∨ H0 st = none)
    (k : ∀ v H', Lv H H' 2 v → Kp [st] H H' → Stt H0 S l H' → Q v H') : spAny 2 ([.ref st, .int 2] ++ []) H Q E :=
  ⟨st, c, ns, rfl, s.base sb, hn, fun v H' lv q => k v H' lv q.keep (s.after1 (f := DrS c) (sb.subset (by simp)) q.keep hs (q.pick (by walk_at "mem")))⟩
theorem made_ask {H : Hp} {x : V} {Q : VK} {E : XK} (k : ∀ p as H', H p = none → Kp [] H H' → H' p = some (.lst (as.map V.ref)) → ExL K H H' x oneL as → Q (.ref p) H') : spMade K ([x] ++ []) H Q E :=
  ⟨x, rfl, fun p as H' hp s e => k p as H' hp s.keep (s.get List.mem_cons_self) e⟩
theorem held_ask {H H0 : Hp} {x : V} {p : Addr} {as : List Addr} {Q : VK} {E : XK} (hp : H p = some (.lst (as.map V.ref))) (hx : ExL K H0 H x oneL as) (k : ∀ r H', H r = none → Stt H [] [(r, Is (.lst (List.replicate 11 x)))] H' → Q (.ref r) H') : spHeld K ([.ref p] ++ []) H Q E :=
  ⟨x, p, as, H0, rfl, hp, hx, k⟩
theorem same_ask {H0 H : Hp} {l : Led} {n : Nat} {x y : V} {Q : VK} {E : XK} (s : Stt H0 [] l H) (m : Sm H n x y) (k : ∀ H', Stt H0 [] l H' → Q (.bl true) H') : spSame n ([x, y] ++ []) H Q E :=
  ⟨x, y, rfl, m, fun H' kp => k H' (s.after0 kp)⟩
theorem cls_ask {H0 H : Hp} {l : Led} {a : Addr} {x : Str} {Q : VK} {E : XK} (s : Stt H0 [] l H) (hx : x ∈ cls15) (hA : ExAt H0 a (He.ga K x)) (k : ∀ r H', H0 r = none → Stt H0 [] ((r, Is (.lst (cls14.map fun y => V.bl (decide (x = y))))) :: l) H' → Q (.ref r) H') : spCls K ([.ref a] ++ []) H Q E :=
  ⟨x, a, hx, rfl, ExAt.kp s.keep hA, fun r H' hr z => k r H' (s.none hr) ((s.after0 z.keep).add (z.pick List.mem_cons_self) (s.fresh hr))⟩
section
variable {H0 H : Hp} {S : List Addr} {l : Led} {C : Addr} {Q : VK} {t p r : V}
theorem exr_at (s : Stt H0 S l H) (k : ∀ a d H', H0 a = none → H0 d = none → Stt H0 S ((d, Is (exd d [("reason", r), ("place", p), ("task", t)])) :: (a, Is (exo a C (some d))) :: l) H' → Q (.ref a) H') (a : Addr) (ha : H a = none) : spExR C [.ref a, t, p, r] (upd H a (exo a C none)) (fun v H2 => v = .non ∧ Q (.ref a) H2) noX := by
  have s1 := s.new ha (exo a C none)
  refine ⟨a, t, p, r, rfl, upd_same, fun d hd hn => ⟨rfl, ?_⟩⟩
  have s2 := s1.new hd (exd d [("reason", r), ("place", p), ("task", t)])
  exact k a d _ (s.none ha) (s1.none hd) (s2.set (.tail .head) (.inr (s.none ha)))
theorem exMr_ask (s : Stt H0 S l H) (k : ∀ a d H', H0 a = none → H0 d = none → Stt H0 S ((d, Is (exd d [("reason", r), ("place", p), ("task", t)])) :: (a, Is (exo a C (some d))) :: l) H' → Q (.ref a) H') : ExM C (spExR C) [t, p, r] H Q :=
  ⟨by simp, fun a ha => exr_at s k a ha⟩
theorem exMKr_ask {z1 z2 z3 : Str} (s : Stt H0 S l H) (k : ∀ a d H', H0 a = none → H0 d = none → Stt H0 S ((d, Is (exd d [("reason", r), ("place", p), ("task", t)])) :: (a, Is (exo a C (some d))) :: l) H' → Q (.ref a) H') : ExMK [z1, z2, z3].length C (spExR C) (fun vs zs => gRow vs zs) [r, t, p] H Q :=
  ⟨rfl, fun a ha => exr_at s k a ha⟩
theorem ex0_ask (T : OexC K C) {σ : L2.St} (s : Stt H0 S l H) (k : ∀ a H', H0 a = none → Stt H0 S ((a, Is (exo a C none)) :: l) H' → Q (.ref a) H') : tExMk0 C (spEx0 K) σ H Q :=
  fun a ha => ⟨a, C, rfl, T, upd_same, rfl, k a _ (s.none ha) (s.new ha _)⟩
end
def RowAt (K : PySem.W.Frag) (H : Hp) (r : Addr) (x y z : V) : Prop := ∃ d, H r = some (exo r (He.ga K "BadRow") (some d)) ∧ H d = some (exd d [("reason", z), ("place", y), ("task", x)])
/-- all that a turn has made, the lists grown -/
structure TS (K : PySem.W.Frag) (x y z : V) (q p1 p2 w r1 r2 : Addr) (as1 as2 : List Addr) (H : Hp) : Prop where
  hq : H q = some (.lst [.ref p1, .ref p2])
  h1 : H p1 = some (.lst (as1.map V.ref))
  h2 : H p2 = some (.lst (as2.map V.ref))
  hw : H w = some (.lst [.ref r1, .ref r2])
  e1 : ExL K (fun _ => none) H x oneL as1
  e2 : ExL K (fun _ => none) H x oneL as2
  w1 : RowAt K H r1 x y z
  w2 : RowAt K H r2 x y z
  m : ∀ v ∈ [x, y, z], Sm H 2 v v
theorem TS.kp {x y z : V} {q p1 p2 w r1 r2 : Addr} {as1 as2 : List Addr} {H H' : Hp} (k : Kp [] H H') (h : TS K x y z q p1 p2 w r1 r2 as1 as2 H) : TS K x y z q p1 p2 w r1 r2 as1 as2 H' := by
  have kk : ∀ {b o}, H b = some o → H' b = some o := fun e => k.get List.not_mem_nil e
  have kr : ∀ {r}, RowAt K H r x y z → RowAt K H' r x y z := fun ⟨d, a, b⟩ => ⟨d, kk a, kk b⟩
  exact ⟨kk h.hq, kk h.h1, kk h.h2, kk h.hw, h.e1.kp fun b o _ e => kk e, h.e2.kp fun b o _ e => kk e, kr h.w1, kr h.w2, fun v hv => (h.m v hv).kp k⟩
theorem exl_len {H0 H : Hp} {x : V} : ∀ {cs : List (Str × Str)} {as : List Addr}, ExL K H0 H x cs as → as.length = cs.length
  | [], [], _ => rfl
  | _ :: _, _ :: _, h => congrArg Nat.succ (exl_len h.2)
  | [], _ :: _, h => h.elim
  | _ :: _, [], h => h.elim
theorem exl_at {H0 H : Hp} {x : V} : ∀ {cs : List (Str × Str)} {as : List Addr} {k : Nat} {b : Addr}, ExL K H0 H x cs as → as[k]? = some b → ∃ c, (cs.map (·.1))[k]? = some c ∧ ExAt H b (He.ga K c)
  | c :: cs, a :: as, 0, b, ⟨⟨_, d, _, h2, h3⟩, _⟩, e => by
    cases e
    exact ⟨c.1, rfl, .inr ⟨d, _, h2, h3⟩⟩
  | c :: cs, a :: as, k + 1, b, ⟨_, h⟩, e => by
    obtain ⟨c', e1, e2⟩ := exl_at (k := k) h (by simpa using e)
    exact ⟨c', by simpa using e1, e2⟩
  | [], [], k, b, _, e => by simp at e
  | [], _ :: _, _, _, h, _ => h.elim
  | _ :: _, [], _, _, h, _ => h.elim
theorem dpAll_bl {H : Hp} : ∀ bs : List Bool, DpAll K H (bs.map V.bl) (bs.map PyData.bool)
  | [] => .nil
  | b :: bs => .cons (.bl b) (dpAll_bl bs)
def flags (k n : Nat) : List Bool := (List.range n).map fun i => decide (i = k)
theorem flags_cls : ∀ k < 14, ∀ c, cls15[k]? = some c → c ∈ cls15 ∧ (cls14.map fun y => decide (c = y)) = flags k 14 ∧ SeqAt.shaped (.list ((flags k 14).map PyData.bool)) = true := by
  intro k hk c hc
  have : ∀ k < 14, (match cls15[k]? with
    | some c => decide (c ∈ cls15) && (decide ((cls14.map fun y => decide (c = y)) = flags k 14) && SeqAt.shaped (.list ((flags k 14).map PyData.bool)))
    | none => true) = true := by decide +kernel
  have := this k hk
  rw [hc] at this
  simpa using this
end

end
section
local macro_rules | `(tactic| walk_at "subl") => `(tactic| first | with_reducible exact List.nil_sublist _ | with_reducible exact List.Sublist.refl _ | (with_reducible refine List.Sublist.cons₂ _ ?_; walk_at "subl") | (with_reducible refine List.Sublist.cons _ ?_; walk_at "subl"))
local macro_rules | `(tactic| walk_at "k") => `(tactic| try dsimp only [L2.cxOf, L2.Cx.nox, L2.Cx.wish, L2.Cx.blk])
local macro_rules | `(tactic| walk_at "ask") => `(tactic| fail)
local macro_rules | `(tactic| walk_at "mem") => `(tactic| first | with_reducible exact List.mem_cons_self | (with_reducible apply List.mem_cons_of_mem; walk_at "mem"))
local macro_rules | `(tactic| walk_at "put") => `(tactic| first | with_reducible exact Lt.Put.head | (with_reducible apply Lt.Put.tail; walk_at "put"))
local macro_rules | `(tactic| walk_at "own") => `(tactic| first | exact Or.inr (by assumption) | exact Or.inl (by walk_at "mem"))
local macro_rules | `(tactic| walk_at "cnd") => `(tactic| first | assumption | decide | ((try dsimp only); omega) | (unfold CMul; omega) | (unfold CDiv; omega) | (unfold CPow; omega) | exact Or.inr (by decide) | exact Or.inl (by decide) | exact wide_div (b := 128) (by omega) (by omega) (by decide) (by decide))
local macro_rules | `(tactic| walk_at "at") => `(tactic| first | exact rfl | assumption)
local macro_rules | `(tactic| walk_at "kit") => `(tactic| first | assumption | exact kit_int_int | exact kit_int_bool | exact kit_int_str | exact kit_int_list | exact kit_int_tuple | exact kit_int_dict | exact kit_bool_int | exact kit_bool_bool | exact kit_bool_str | exact kit_bool_list | exact kit_bool_tuple | exact kit_bool_dict | exact kit_str_int | exact kit_str_bool | exact kit_str_str | exact kit_str_list | exact kit_str_tuple | exact kit_str_dict | exact kit_list_int | exact kit_list_bool | exact kit_list_str | exact kit_list_list | exact kit_list_tuple | exact kit_list_dict | exact kit_tuple_int | exact kit_tuple_bool | exact kit_tuple_str | exact kit_tuple_list | exact kit_tuple_tuple | exact kit_tuple_dict | exact kit_dict_int | exact kit_dict_bool | exact kit_dict_str | exact kit_dict_list | exact kit_dict_tuple | exact kit_dict_dict | exact kit_NoneType_int | exact kit_NoneType_bool | exact kit_NoneType_str | exact kit_NoneType_list | exact kit_NoneType_tuple | exact kit_NoneType_dict)
local macro_rules | `(tactic| walk_at "kitA") => `(tactic| first | assumption | exact kitA_lt_int | exact kitA_lt_bool | exact kitA_lt_str | exact kitA_lt_list | exact kitA_lt_tuple | exact kitA_lt_dict | exact kitA_lt_NoneType | exact kitA_bilt_int | exact kitA_bilt_bool | exact kitA_bilt_str | exact kitA_bilt_list | exact kitA_bilt_tuple | exact kitA_bilt_dict | exact kitA_bilt_NoneType)
local macro_rules | `(tactic| walk_at "ty") => `(tactic| first | exact .base (.int _) | exact .base (.bl _) | exact .base (.str _) | exact .base .non | exact .base (.lst (Stt.get (by assumption) (by walk_at "mem"))) | exact .base (.tup (Stt.get (by assumption) (by walk_at "mem"))) | exact .base (.dK (Stt.get (by assumption) (by walk_at "mem"))) | exact sqL_ty (Stt.upL (by assumption) (by assumption)) | exact sqT_ty (Stt.upT (by assumption) (by assumption)) | exact InsT.ty (by assumption) (Stt.get (by assumption) (by walk_at "mem")) | assumption)
local macro_rules | `(tactic| walk_at "rd1") => `(tactic| first
  | with_reducible refine' Rd.seq ?_
  | with_reducible refine' Rd.asg ?_
  | ((with_reducible refine' Rd.var ?vh ?_); (case vh => exact rfl))
  | with_reducible refine' Rd.con ?_
  | with_reducible refine' Rd.op ?_
  | with_reducible refine' Rd.i0 ?_
  | ((with_reducible refine' Rd.ic ?vh ?_); (case vh => walk_at "cnd"))
  | ((with_reducible refine' Rd.ixL ?v1 ?v2 ?v3 ?_); (case v1 => assumption); (case v2 => walk_at "mem"); (case v3 => walk_at "at"))
  | ((with_reducible refine' Rd.ixT ?v1 ?v2 ?v3 ?_); (case v1 => assumption); (case v2 => walk_at "mem"); (case v3 => walk_at "at"))
  | ((with_reducible refine' Rd.ixD2 ?v1 ?v2 ?_); (case v1 => assumption); (case v2 => walk_at "mem"); intro _)
  | ((with_reducible refine' Rd.ixD3 ?v1 ?v2 ?_); (case v1 => assumption); (case v2 => walk_at "mem"); intro _)
  | ((with_reducible refine' Rd.setD2 ?v1 ?v2 ?v3 ?v4 ?_); (case v1 => assumption); (case v2 => walk_at "mem"); (case v3 => walk_at "put"); (case v4 => walk_at "own"); intro _ _)
  | ((with_reducible refine' Rd.isi ?v1 ?v2 ?v3 ?_); (case v1 => walk_at "ty"); (case v2 => first | exact ClsV.ty _ | exact ClsV.own _); (case v3 => walk_at "kit"))
  | with_reducible refine' Rd.fld ?_
  | ((with_reducible refine' Rd.fldI ?v1 ?v2 ?v3 ?v4 ?v5 ?_); (case v1 => assumption); (case v2 => walk_at "mem"); (case v3 => assumption); (case v4 => assumption); (case v5 => walk_at "at"))
  | with_reducible refine' Rd.sfld ?_
  | ((with_reducible refine' Rd.sfldI ?v1 ?v2 ?v3 ?v4 ?v5 ?v6 ?v7 ?_); (case v1 => assumption); (case v2 => walk_at "mem"); (case v3 => assumption); (case v4 => assumption); (case v5 => first | decide | (refine Nat.lt_of_le_of_lt (putF_len _ _ _) ?_; decide)); (case v6 => walk_at "put"); (case v7 => walk_at "own"); intro _ _)
  | with_reducible refine' Rd.make ?_
  | with_reducible refine' Rd.gcd ?_
  | with_reducible refine' Rd.cons ?_
  | with_reducible refine' Rd.nil ?_
  | with_reducible refine' Rd.cb ?_
  | with_reducible refine' Rd.intI ?_
  | with_reducible refine' Rd.absI ?_
  | ((with_reducible refine' Rd.lenL ?v1 ?v2 ?_); (case v1 => assumption); (case v2 => walk_at "mem"))
  | ((with_reducible refine' Rd.lenT ?v1 ?v2 ?_); (case v1 => assumption); (case v2 => walk_at "mem"))
  | ((with_reducible refine' Rd.lenBL ?v1 ?v2 ?v3 ?_); (case v1 => assumption); (case v2 => assumption); (case v3 => first | exact List.not_mem_nil | assumption))
  | ((with_reducible refine' Rd.lenBT ?v1 ?v2 ?v3 ?_); (case v1 => assumption); (case v2 => assumption); (case v3 => first | exact List.not_mem_nil | assumption))
  | ((with_reducible refine' Rd.ixBL ?v1 ?v2 ?v4 ?v3 ?_); (case v1 => assumption); (case v2 => assumption); (case v4 => first | exact List.not_mem_nil | assumption); (case v3 => walk_at "at"))
  | ((with_reducible refine' Rd.ixBT ?v1 ?v2 ?v4 ?v3 ?_); (case v1 => assumption); (case v2 => assumption); (case v4 => first | exact List.not_mem_nil | assumption); (case v3 => walk_at "at"))
  | ((with_reducible refine' Rd.brI ?vh ?_); (case vh => with_reducible exact rfl))
  | with_reducible refine' Rd.ifS ?_
  | with_reducible refine' Rd.test ?_
  | with_reducible refine' Rd.tbl ?_
  | with_reducible refine' Rd.bl ?_
  | with_reducible refine' Rd.brTT ?_
  | with_reducible refine' Rd.brFF ?_
  | with_reducible refine' Rd.brN ?_
  | ((with_reducible refine' Rd.aug ?vh ?_); (case vh => exact rfl))
  | with_reducible refine' Rd.ipI ?_
  | with_reducible refine' Rd.blV ?_
  | with_reducible refine' Rd.notVL ?_
  | with_reducible refine' Rd.andT ?_
  | with_reducible refine' Rd.orT ?_
  | with_reducible refine' Rd.notT ?_
  | with_reducible refine' Rd.andV ?_
  | with_reducible refine' Rd.orV ?_
  | with_reducible refine' Rd.notV ?_
  | with_reducible refine' Rd.ifE ?_
  | ((with_reducible refine' Rd.eqS ?vh ?_); (case vh => exact rfl))
  | ((with_reducible refine' Rd.neS ?vh ?_); (case vh => exact rfl))
  | with_reducible refine' Rd.par ?_
  | with_reducible refine' Rd.parL ?_
  | with_reducible refine' Rd.un ?_
  | with_reducible refine' Rd.u1 ?_
  | with_reducible refine' Rd.sub ?_
  | ((with_reducible refine' Rd.setL ?v1 ?v2 ?v3 ?v4 ?v5 ?_); (case v1 => assumption); (case v2 => walk_at "mem"); (case v3 => walk_at "at"); (case v4 => walk_at "put"); (case v5 => walk_at "own"); intro _ _)
  | with_reducible refine' Rd.tup ?_
  | with_reducible refine' Rd.lst ?_
  | ((with_reducible refine' Rd.tupN ?v1 ?v2 ?_); (case v1 => assumption); (case v2 => simp only [List.length_cons, List.length_nil]; decide); intro _ _ _ _)
  | ((with_reducible refine' Rd.lstN ?v1 ?v2 ?_); (case v1 => assumption); (case v2 => simp only [List.length_cons, List.length_nil]; decide); intro _ _ _ _)
  | with_reducible refine' Rd.ret ?_
  | with_reducible refine' Rd.drop ?_
  | with_reducible refine' Rd.retN ?_
  | with_reducible refine' Rd.next ?_
  | with_reducible refine' Rd.brk ?_
  | with_reducible refine' Rd.cont ?_
  | with_reducible refine' Rd.call ?_
  | walk_at "ask"
  | with_reducible refine' Rd.bm ?_
  | ((with_reducible refine' Rd.bmL ?v1 ?v2 ?_); (case v1 => assumption); (case v2 => walk_at "mem"))
  | ((with_reducible refine' Rd.app ?v1 ?v2 ?v3 ?v4 ?v5 ?_); (case v1 => assumption); (case v2 => walk_at "mem"); (case v3 => simp only [List.length_cons, List.length_nil, List.length_append]; omega); (case v4 => walk_at "put"); (case v5 => walk_at "own"); intro _ _)
  | with_reducible refine' Rd.asgT ?_
  | ((with_reducible refine' Rd.gtup ?v1 ?v2 ?v3 ?_); (case v1 => assumption); (case v2 => walk_at "mem"); (case v3 => exact rfl))
  | with_reducible refine' Rd.gcons ?_
  | with_reducible refine' Rd.gname ?_
  | with_reducible refine' Rd.gnil ?_
  | with_reducible refine' Rd.sl ?_
  | with_reducible refine' Rd.noPart ?_
  | with_reducible refine' Rd.part ?_
  | with_reducible refine' Rd.prt ?_
  | with_reducible refine' Rd.isB ?_
  | ((with_reducible refine' Rd.wp ?vh ?_); (case vh => exact rfl))
  | with_reducible refine' Rd.makeK ?_
  | with_reducible refine' Rd.meth ?_
  | ((with_reducible refine' Rd.catL ?v1 ?v2 ?v3 ?v4 ?_); (case v1 => assumption); (case v2 => walk_at "mem"); (case v3 => walk_at "mem"); (case v4 => simp only [List.length_cons, List.length_nil, List.length_append]; omega); intro _ _ _ _)
  | with_reducible refine' Rd.dnew ?_
  | ((with_reducible refine' Rd.dnewL ?v1 ?_); (case v1 => assumption); intro _ _ _ _)
  | with_reducible refine' Rd.lc ?_
  | with_reducible refine' Rd.wZ ?_
  | with_reducible refine' Rd.tYesH ?_
  | with_reducible refine' Rd.fmt ?_
  | with_reducible refine' Rd.joined ?_
  | with_reducible refine' Rd.jsNil ?_
  | with_reducible refine' Rd.jsCons ?_
  | ((with_reducible refine' Rd.isiT ?v1 ?v2 ?v3 ?v4 ?v5 ?_); (case v1 => assumption); (case v2 => walk_at "mem"); (case v3 => walk_at "ty"); (case v4 => first | exact .cons (.ty _) (.cons (.ty _) .nil) | exact .cons (.ty _) (.cons (.ty _) (.cons (.ty _) (.cons (.ty _) .nil))) | exact .cons (.ty _) (.cons (.ty _) (.cons (.ty _) .nil))); (case v5 => walk_at "kitA"))
  | with_reducible refine' Rd.forS ?_
  | with_reducible refine' Rd.wEnT ?_
  | ((with_reducible refine' Rd.wEnTL ?v1 ?v2 ?_); (case v1 => assumption); (case v2 => walk_at "mem"))
  | with_reducible refine' Rd.wL ?_
  | ((with_reducible refine' Rd.wLL ?v1 ?v2 ?_); (case v1 => assumption); (case v2 => walk_at "mem"))
  | with_reducible refine' Rd.wT ?_
  | ((with_reducible refine' Rd.wTL ?v1 ?v2 ?_); (case v1 => assumption); (case v2 => walk_at "mem"))
  | with_reducible refine' Rd.wR1 ?_
  | ((with_reducible refine' Rd.wR1L ?v1 ?v2 ?_); (case v1 => omega); (case v2 => omega))
  | with_reducible refine' Rd.wR2 ?_
  | ((with_reducible refine' Rd.wR2L ?v1 ?_); (case v1 => omega)))
local macro_rules | `(tactic| walk_at "rd") => `(tactic| repeat (walk_at "rd1"))

section
variable {P : Program} {w : World} {K : PySem.W.Frag} {mg : Str → Option Value} {base : Heap}
theorem pe_exFK {X : Cx} {o : Expr} {te : TE} {n : Str} {pos : Pos} (hK : X.K = K) (ho : PE X o te) (hb : attributeBase o n X.env (eval o X.env) = eval o X.env) : PE X (.Attribute o n pos) (tExF K n te) := by
  subst hK
  exact pe_exF ho hb
theorem Sm.up {G : Hp} {n : Nat} {x y : V} (h : Sm G n x y) : Sm G (n + 1) x y := by
  induction h with
  | non n => exact .non _
  | bl n b => exact .bl _ b
  | int n i => exact .int _ i
  | str n z => exact .str _ z
  | lst h1 h2 hl hz r ih => exact .lst h1 h2 hl hz ih
  | tup h1 h2 hl hz r ih => exact .tup h1 h2 hl hz ih
  | dct n h nd f => exact .dct _ h nd f
def spLaw (K : PySem.W.Frag) : Sp := fun vs H Q _ => ∃ (a : Addr) (ns : List Int), vs = [.ref a] ∧ SqL K H a (ns.map V.int) ∧ ns.length ≤ 63 ∧ ∀ H', Q (.bl true) H'
local macro_rules | `(tactic| walk_at "ask") => `(tactic| first
  | with_reducible refine' Rd.exF ?_
  | with_reducible refine' Rd.exMK ?_
  | with_reducible refine' Rd.exM ?_
  | ((with_reducible refine' exMr_ask ?v1 ?_); (case v1 => assumption); intro _ _ _ _ _ _)
  | ((with_reducible refine' exMKr_ask ?v1 ?_); (case v1 => assumption); intro _ _ _ _ _ _)
  | ((with_reducible refine' ex0_ask ?v0 ?v1 ?_); (case v0 => assumption); (case v1 => assumption); intro _ _ _ _)
  | ((with_reducible refine' Rd.ixLs ?v1 ?v2 ?_); (case v1 => exact (Stt.upL (by assumption) (by assumption))); (case v2 => exact rfl))
  | ((with_reducible refine' isx_ask ?v1 ?v2 ?v3 ?v4 ?v5 ?_); (case v1 => assumption); (case v2 => assumption); (case v3 => assumption); (case v4 => first | exact ClsV.own _ | exact ClsV.ty _); (case v5 => assumption))
  | ((with_reducible refine' exF_ask ?v1 ?v2 ?v3 ?v4 ?v5 ?v6 ?_); (case v1 => assumption); (case v2 => assumption); (case v3 => assumption); (case v4 => assumption); (case v5 => assumption); (case v6 => exact rfl)))
theorem ok_law (T : Txt K mg) : FnOk P w K mg base CX0 9 (He.fAd K ("law", none)) T.fd_law ["_law_script"] (spLaw K) := by
  refine T.F_law.ok sc_law (fun vs H Q E h => ?_) (fun cdv A outer s H vs Q E hr h => ?_)
  · obtain ⟨a, ns, rfl, _⟩ := h
    rfl
  · obtain ⟨a, ns, rfl, hS, hl, k⟩ := h
    refine ⟨_, PSs.nox (pss_cons (ps_asg (pe_call (ok_l_fresh T) (hr.mono (by decide)) rfl T.g_l_fresh T.F_l_fresh.kp T.b_l_fresh .nil pass0 (pa_cons (pv 0) pa_nil)) (pg_name (i := 1) sc_law.nd rfl (by first | exact Or.inl rfl | exact Or.inr rfl)))
  (pss_cons (ps_for PassesOwn.never rfl (pi_range1 rfl T.n_range (pa_cons pe_int pa_nil)) (pg_name (i := 2) sc_law.nd rfl (by first | exact Or.inl rfl | exact Or.inr rfl))
   (C8.pss_cut (ps_asg (pe_tup (pa_cons (pe_call (ok_l_any T 2 (by decide)) (hr.mono (by decide)) rfl T.g_l_any T.F_l_any.kp T.b_l_any .nil pass0 (pa_cons (pv 1) (pa_cons pe_int pa_nil))) (pa_cons (pe_call (ok_l_any T 2 (by decide)) (hr.mono (by decide)) rfl T.g_l_any T.F_l_any.kp T.b_l_any .nil pass0 (pa_cons (pv 1) (pa_cons pe_int pa_nil))) (pa_cons (pe_call (ok_l_any T 2 (by decide)) (hr.mono (by decide)) rfl T.g_l_any T.F_l_any.kp T.b_l_any .nil pass0 (pa_cons (pv 1) (pa_cons pe_int pa_nil))) pa_nil)))) (pg_tup (by rfl) (pgs_cons (pg_name (i := 3) sc_law.nd rfl (by first | exact Or.inl rfl | exact Or.inr rfl)) (pgs_cons (pg_name (i := 4) sc_law.nd rfl (by first | exact Or.inl rfl | exact Or.inr rfl)) (pgs_cons (pg_name (i := 5) sc_law.nd rfl (by first | exact Or.inl rfl | exact Or.inr rfl)) pgs_nil)))))
  (C8.pss_cut (ps_asg (pe_lst (pa_cons (pe_call (ok_l_with_one T) (hr.mono (by decide)) rfl T.g_l_with_one T.F_l_with_one.kp T.b_l_with_one .nil pass0 (pa_cons (pv 3) pa_nil)) (pa_cons (pe_call (ok_l_by_place T) (hr.mono (by decide)) rfl T.g_l_by_place T.F_l_by_place.kp T.b_l_by_place .nil pass0 (pa_cons (pv 3) pa_nil)) pa_nil))) (pg_name (i := 6) sc_law.nd rfl (by first | exact Or.inl rfl | exact Or.inr rfl)))
  (C8.pss_cut (ps_asg (pe_lst (pa_cons (pe_exMk T.x_BadRow (ok_BadRow_init T) (hr.mono (by decide)) T.b_BadRow_init pass0 rfl T.g_BadRow (pa_cons (pv 3) (pa_cons (pv 4) (pa_cons (pv 5) pa_nil)))) (pa_cons (pe_exMkK T.x_BadRow (ok_BadRow_init T) (hr.mono (by decide)) T.kb_BadRow_init_reason_task_place pass0 rfl T.g_BadRow (pk_cons (pv 5) (pk_cons (pv 3) (pk_cons (pv 4) pk_nil)))) pa_nil))) (pg_name (i := 7) sc_law.nd rfl (by first | exact Or.inl rfl | exact Or.inr rfl)))
  (C8.pss_cut (ps_for PassesOwn.never rfl (pi_list (pe_lst (pa_cons (pv 3) (pa_cons (pv 4) (pa_cons (pv 5) pa_nil))))) (pg_name (i := 8) sc_law.nd rfl (by first | exact Or.inl rfl | exact Or.inr rfl))
   (pss_one (ps_if (pt_val (pe_callB call_isi (by rfl) T.n_isinstance (by decide +kernel) (pa_cons (pv 8) (pa_cons (pe_bltn (v := .ty "list") (by rfl) T.n_list (by decide +kernel) (show RelV (.ty "list") (.type "list") from rfl)) pa_nil)))) (pss_one (ps_expr (pe_bm PySem.F.plainAttrs_list PySem.F.slot_list_append PySem.F.type_list_append mt_append (pv 8) (pa_cons pe_str pa_nil))))
   pss_nil)))
  (C8.pss_cut (ps_for PassesOwn.never rfl (pi_list (pv 6)) (pg_name (i := 9) sc_law.nd rfl (by first | exact Or.inl rfl | exact Or.inr rfl))
   (pss_one (ps_if (pt_not (pt_val (pe_callB (cr_all rfl) (by rfl) T.n_all (by decide +kernel) (pa_cons (pe_lc (own := [("_law_told", 13)]) (g := gName 13) (tt := tYes) (by rfl) sc_law.nd (pi_list (pe_call (ok_l_held T) (hr.mono (by decide)) rfl T.g_l_held T.F_l_held.kp T.b_l_held .nil pass0 (pa_cons (pv 9) pa_nil))) (blkOk_by (own := [("_law_told", 13)]) (N := ["_law_script", "_law_state", "_law_turn", "_law_x", "_law_y", "_law_z", "_law_ones", "_law_rows", "_law_thing", "_law_made", "_law_k", "_law_e", "_law_base", "_law_told", "_law_at"]) (sc := defScope s_law) (by decide +kernel)) (fun _ _ _ _ _ => (pg_name (i := 13) sc_law.nd rfl (by first | exact Or.inl rfl | exact Or.inr rfl))) (fun _ _ _ _ _ => pts_nil) (fun _ _ _ _ _ => (pe_call (ok_l_same T 3 (by decide)) (hr.mono (by decide)) rfl T.g_l_same T.F_l_same.kp T.b_l_same .nil pass0 (pa_cons (pv 13) (pa_cons (pv 3) pa_nil))))) pa_nil)))) (pss_one (ps_ret pe_bl))
   pss_nil)))
  (C8.pss_cut (ps_if (pt_not (pt_val (pe_callB (cr_all rfl) (by rfl) T.n_all (by decide +kernel) (pa_cons (pe_lc (own := [("_law_made", 9)]) (g := gName 9) (tt := tYes) (by rfl) sc_law.nd (pi_list (pv 7)) (blkOk_by (own := [("_law_made", 9)]) (N := ["_law_script", "_law_state", "_law_turn", "_law_x", "_law_y", "_law_z", "_law_ones", "_law_rows", "_law_thing", "_law_made", "_law_k", "_law_e", "_law_base", "_law_told", "_law_at"]) (sc := defScope s_law) (by decide +kernel)) (fun _ _ _ _ _ => (pg_name (i := 9) sc_law.nd rfl (by first | exact Or.inl rfl | exact Or.inr rfl))) (fun _ _ _ _ _ => pts_nil) (fun _ _ _ _ _ => (pe_call (ok_l_same T 3 (by decide)) (hr.mono (by decide)) rfl T.g_l_same T.F_l_same.kp T.b_l_same .nil pass0 (pa_cons (pe_lst (pa_cons (pe_exFK (K := K) rfl (pv 9) rfl) (pa_cons (pe_exFK (K := K) rfl (pv 9) rfl) (pa_cons (pe_exFK (K := K) rfl (pv 9) rfl) pa_nil)))) (pa_cons (pe_lst (pa_cons (pv 3) (pa_cons (pv 4) (pa_cons (pv 5) pa_nil)))) pa_nil))))) pa_nil)))) (pss_one (ps_ret pe_bl))
   pss_nil)
  (C8.pss_cut (ps_asg (pe_op op_cat (pe_ix ix_list (pv 6) pe_int (fun _ _ => rfl)) (pe_lst (pa_cons (pe_ix ix_list (pv 7) pe_int (fun _ _ => rfl)) (pa_cons (pe_exMk0 T.x_BadWish (ok_LoopError_init T) (hr.mono (by decide)) T.b_LoopError_init pass0 rfl T.g_BadWish) (pa_cons (pe_exMk0 T.x_BadRun (ok_LoopError_init T) (hr.mono (by decide)) T.b_LoopError_init pass0 rfl T.g_BadRun) pa_nil))))) (pg_name (i := 9) sc_law.nd rfl (by first | exact Or.inl rfl | exact Or.inr rfl)))
  (C8.pss_cut (ps_for PassesOwn.never rfl (pi_enum (by rfl) T.n_enumerate (pa_cons (pv 9) pa_nil)) (pg_tup (by rfl) (pgs_cons (pg_name (i := 10) sc_law.nd rfl (by first | exact Or.inl rfl | exact Or.inr rfl)) (pgs_cons (pg_name (i := 11) sc_law.nd rfl (by first | exact Or.inl rfl | exact Or.inr rfl)) pgs_nil)))
   (pss_cons (ps_if (PW.pt (pw_or (pt_not (pt_val (pe_callB call_isX (by rfl) T.n_isinstance (by decide +kernel) (pa_cons (pv 11) (pa_cons (pe_glob (v := .ref (He.ga K "LoopError")) rfl T.g_LoopError RelT.ref) pa_nil))))) (pw_or1 (pt_not (pt_val (pe_callB call_isX (by rfl) T.n_isinstance (by decide +kernel) (pa_cons (pv 11) (pa_cons (pe_bltn (v := .ty "ValueError") (by rfl) T.n_ValueError (by decide +kernel) (show RelV (.ty "ValueError") (.type "ValueError") from rfl)) pa_nil)))))))) (pss_one (ps_ret pe_bl))
   pss_nil)
  (pss_one (ps_if (pt_cmpR (op_neD hr.units) (pe_call (ok_l_classes T) (hr.mono (by decide)) rfl T.g_l_classes T.F_l_classes.kp T.b_l_classes .nil pass0 (pa_cons (pv 11) pa_nil)) (pe_lc (own := [("_law_at", 14)]) (g := gName 14) (tt := tYes) (by rfl) sc_law.nd (pi_range1 rfl T.n_range (pa_cons (pe_callB call_lenQ (by rfl) T.n_len PySem.boot_len (pa_cons (pv 9) pa_nil)) pa_nil)) (blkOk_by (own := [("_law_at", 14)]) (N := ["_law_script", "_law_state", "_law_turn", "_law_x", "_law_y", "_law_z", "_law_ones", "_law_rows", "_law_thing", "_law_made", "_law_k", "_law_e", "_law_base", "_law_told", "_law_at"]) (sc := defScope s_law) (by decide +kernel)) (fun _ _ _ _ _ => (pg_name (i := 14) sc_law.nd rfl (by first | exact Or.inl rfl | exact Or.inr rfl))) (fun _ _ _ _ _ => pts_nil) (fun _ _ _ _ _ => (pe_cmpR op_eq (pv 14) (pv 10) (nomark _)))) (nomark _)) (pss_one (ps_ret pe_bl))
   pss_nil))))
  (C8.pss_cut (ps_asg (pe_exMk0 T.x_LoopError (ok_LoopError_init T) (hr.mono (by decide)) T.b_LoopError_init pass0 rfl T.g_LoopError) (pg_name (i := 12) sc_law.nd rfl (by first | exact Or.inl rfl | exact Or.inr rfl)))
  (pss_one (ps_if (PW.pt (pw_or (pt_val (pe_callB (cr_any rfl) (by rfl) T.n_any (by decide +kernel) (pa_cons (pe_call (ok_l_classes T) (hr.mono (by decide)) rfl T.g_l_classes T.F_l_classes.kp T.b_l_classes .nil pass0 (pa_cons (pv 12) pa_nil)) pa_nil))) (pw_or1 (pt_not (pt_val (pe_callB call_isX (by rfl) T.n_isinstance (by decide +kernel) (pa_cons (pv 12) (pa_cons (pe_bltn (v := .ty "ValueError") (by rfl) T.n_ValueError (by decide +kernel) (show RelV (.ty "ValueError") (.type "ValueError") from rfl)) pa_nil)))))))) (pss_one (ps_ret pe_bl))
   pss_nil))))))))))))
  (pss_one (ps_ret pe_bl)))), ?_⟩
    walk_at "k"
    walk_at "rd"
    refine ⟨a, ns, rfl, hS, hl, fun st c ms H1 hst s1 hm => ?_⟩
    walk_at "rd"
    refine Rd.loop (walk_range (lo := 0) (n := Int.toNat 3)) (fun i σ H' => ∃ v2 v3 v4 v5 v6 v7 v8 v9 v10 v11 v12 v13 v14 : Option V, σ = [some (.ref a), some (.ref st), v2, v3, v4, v5, v6, v7, v8, v9, v10, v11, v12, v13, v14] ∧ Stt H [] (dled st c ms) H') ⟨_, _, _, _, _, _, _, _, _, _, _, _, _, rfl, s1⟩ (fun _ _ _ _ _ => trivial) ?_ ?_
    · rintro i x σ H2 H3 hi ⟨v2, v3, v4, v5, v6, v7, v8, v9, v10, v11, v12, v13, v14, rfl, s2⟩ ⟨rfl, rfl⟩
      walk_at "rd"
      refine Rd.cut (fun σ' H' => ∃ (x y z : V) (S : List Addr), σ' = [some (.ref a), some (.ref st), some (.int (0 + (i : Int))), some x, some y, some z, v6, v7, v8, v9, v10, v11, v12, v13, v14] ∧ Stt H [] (dled st c ms) H' ∧ (∀ b ∈ S, H b = none ∧ H' b ≠ none) ∧ (∀ e ∈ dled st c ms, e.1 ∉ S) ∧ Rt S 3 H' x ∧ Rt S 3 H' y ∧ Rt S 3 H' z) ?_ ?_
      · walk_at "rd"
        refine any_ask s2 (by walk_at "subl") hm (.inr hst) fun x Ha lx k0 sA => ?_
        walk_at "rd"
        refine any_ask sA (by walk_at "subl") hm (.inr hst) fun y Hb ly k1 sB => ?_
        walk_at "rd"
        refine any_ask sB (by walk_at "subl") hm (.inr hst) fun z Hz lz k2 sC => ?_
        have hst2 : H3 st ≠ none := fun e => by
          obtain ⟨o, ho, _⟩ := s2.pick (show (st, DrS c) ∈ dled st c ms from List.mem_cons_self)
          cases e.symm.trans ho
        obtain ⟨S, hS2, rx, ry, rz⟩ := rt_three hst2 lx ly lz k0 k1 k2
        have sC' : Stt H [] (dled st c ms) Hz ∧ True := ⟨sC, trivial⟩
        clear sC sA sB
        have n0 : Stt Hz [] [] Hz := Stt.nil
        walk_at "rd"
        rename_i p0 Hq hp0 sq
        have kq := sq.keep
        exact ⟨x, y, z, S, rfl, sC'.1.after0 kq, fun b hb => ⟨s2.none (hS2 b hb).1, fun e => (hS2 b hb).2 (kq.none e)⟩, (fun e me hb => by
          obtain ⟨o, ho, _⟩ := s2.at_ e me
          cases (hS2 _ hb).1.symm.trans ho), rx.kp kq, ry.kp kq, rz.kp kq⟩
      · clear s2
        rintro σ' HA ⟨x, y, z, S, rfl, sA, hSA, hSd, rx, ry, rz⟩
        have sA' : Stt H [] (dled st c ms) HA ∧ True := ⟨sA, trivial⟩
        clear sA
        walk_at "rd"
        refine Rd.cut (fun σ' H' => ∃ (q p1 p2 : Addr) (as1 as2 : List Addr), σ' = [some (.ref a), some (.ref st), some (.int (0 + (i : Int))), some x, some y, some z, some (.ref q), v7, v8, v9, v10, v11, v12, v13, v14] ∧ Kp [] HA H' ∧ (HA q = none ∧ HA p1 = none ∧ HA p2 = none) ∧ H' q = some (.lst [.ref p1, .ref p2]) ∧ H' p1 = some (.lst (as1.map V.ref)) ∧ H' p2 = some (.lst (as2.map V.ref)) ∧ ExL K HA H' x oneL as1 ∧ ExL K HA H' x oneL as2) ?_ ?_
        · walk_at "rd"
          refine made_ask fun p1 as1 Hb hp1 k1 e1 x1 => ?_
          walk_at "rd"
          refine made_ask fun p2 as2 Hc hp2 k2 e2 x2 => ?_
          have n0 : Stt Hc [] [] Hc := Stt.nil
          walk_at "rd"
          rename_i q Hd hq sd
          have kd := sd.keep
          have g1 : ∀ b o, Hb b = some o → Hd b = some o := fun b o e => kd.get List.not_mem_nil (k2.get List.not_mem_nil e)
          have g2 : ∀ b o, Hc b = some o → Hd b = some o := fun b o e => kd.get List.not_mem_nil e
          exact ⟨q, p1, p2, as1, as2, rfl, (k1.trans k2 (fun _ h => nomatch h)).trans kd (fun _ h => nomatch h), ⟨k1.none (k2.none hq), hp1, k1.none hp2⟩, sd.get (by walk_at "mem"), g1 _ _ e1, g2 _ _ e2,
            x1.kp fun b o _ e => g1 b o e, (x2.rebase fun b e => k1.none e).kp fun b o _ e => g2 b o e⟩
        · rintro σ' HB ⟨q, p1, p2, as1, as2, rfl, kB, ⟨nq, np1, np2⟩, hq, hp1, hp2, ex1, ex2⟩
          have n0 : Stt HB [] [] HB := Stt.nil
          walk_at "rd"
          refine Rd.cut (fun σ' H' => ∃ (w r1 r2 d1 d2 : Addr), σ' = [some (.ref a), some (.ref st), some (.int (0 + (i : Int))), some x, some y, some z, some (.ref q), some (.ref w), v8, v9, v10, v11, v12, v13, v14] ∧ Kp [] HB H' ∧ (HB w = none ∧ HB r1 = none ∧ HB r2 = none ∧ HB d1 = none ∧ HB d2 = none) ∧ H' w = some (.lst [.ref r1, .ref r2]) ∧
            H' r1 = some (exo r1 (He.ga K "BadRow") (some d1)) ∧ H' d1 = some (exd d1 [("reason", z), ("place", y), ("task", x)]) ∧ H' r2 = some (exo r2 (He.ga K "BadRow") (some d2)) ∧ H' d2 = some (exd d2 [("reason", z), ("place", y), ("task", x)])) ?_ ?_
          · walk_at "rd"
            rename_i r1 d1 Hb hr1 hd1 sb r2 d2 Hc hr2 hd2 sc w Hd hw sd
            exact ⟨w, r1, r2, d1, d2, rfl, sd.keep, ⟨hw, hr1, hr2, hd1, hd2⟩, sd.get (by walk_at "mem"), sd.get (by walk_at "mem"), sd.get (by walk_at "mem"), sd.get (by walk_at "mem"), sd.get (by walk_at "mem")⟩
          · clear n0
            rintro σ' HC ⟨w, r1, r2, d1, d2, rfl, kC, ⟨nw, nr1, nr2, nd1, nd2⟩, hw, hr1, hd1, hr2, hd2⟩
            walk_at "rd"
            refine Rd.cut (fun σ' H' => ∃ v8', σ' = [some (.ref a), some (.ref st), some (.int (0 + (i : Int))), some x, some y, some z, some (.ref q), some (.ref w), v8', v9, v10, v11, v12, v13, v14] ∧ Kp S HC H' ∧ ∀ v ∈ [x, y, z], Rt S 6 H' v) ?_ ?_
            · have n0 : Stt HC [] [] HC := Stt.nil
              walk_at "rd"
              rename_i p Hp hp sp
              have kp := sp.keep
              have kAC : Kp [] HA Hp := (kB.trans kC (fun _ h => nomatch h)).trans kp (fun _ h => nomatch h)
              have sS : Stt HC S [(p, Is (.lst [x, y, z]))] Hp := ⟨kp.mono (fun _ h => nomatch h), sp.nd, sp.at_⟩
              clear sp n0
              refine Rd.loop (walk_list (xs := [x, y, z])) (fun j σ H' => (∃ v8, σ = [some (.ref a), some (.ref st), some (.int (0 + (i : Int))), some x, some y, some z, some (.ref q), some (.ref w), v8, v9, v10, v11, v12, v13, v14]) ∧ Stt HC S [(p, Is (.lst [x, y, z]))] H' ∧ ∀ v ∈ [x, y, z], Rt S (3 + j) H' v) ⟨⟨_, rfl⟩, sS, ?_⟩ (fun j σ H' _ hh => hh.2.1.sqL (by walk_at "mem")) ?_ ?_
              · intro v hv
                simp only [List.mem_cons, List.not_mem_nil, or_false] at hv
                rcases hv with rfl | rfl | rfl
                · exact rx.kp kAC
                · exact ry.kp kAC
                · exact rz.kp kAC
              · rintro j v σ HE HE' hj ⟨⟨v8', rfl⟩, sE, hR⟩ ⟨rfl, e3⟩
                clear sS
                rcases Rt.ty (K := K) (hR v (List.mem_of_getElem? e3)) with ⟨t, ht, hk⟩ | ⟨b, xs, rfl, ht, hbS, hb, hbl⟩
                · walk_at "rd"
                  exact ⟨⟨_, rfl⟩, sE, fun v hv => (hR v hv).more (by omega)⟩
                · have hk : PySem.W.kitOne K (.type "list") (.type "list") = some true := kit_list_list
                  walk_at "rd"
                  refine ⟨.inl ⟨rfl, xs, SqL.of hb⟩, ?_⟩
                  walk_at "rd"
                  have hj4 : xs.length ≤ 3 + 3 := by have : j < 3 := hj; omega
                  refine ⟨b, xs, _, rfl, rfl, hb, Nat.lt_of_le_of_lt hj4 (by decide), ?_⟩
                  walk_at "rd"
                  have hpb : p ≠ b := fun e => by
                    subst e
                    have z1 := (kB.trans kC (fun _ h => nomatch h)).none hp
                    exact (hSA _ hbS).2 z1
                  refine ⟨⟨_, rfl⟩, sE.after (S' := [b]) (fun b' o e => ?_) (fun b' hb' => .inl (by rw [List.mem_singleton.mp hb']; exact hbS)) (fun e' me hb' => ?_), fun v hv => ?_⟩
                  · by_cases hq' : b' = b
                    · exact .inr ⟨by rw [hq']; exact List.mem_cons_self, _, by rw [hq']; exact upd_same⟩
                    · exact .inl (by rw [upd_ne hq']; exact e)
                  · rw [List.mem_singleton.mp me] at hb'
                    exact absurd (List.mem_singleton.mp hb') hpb
                  · exact (hR v hv).app hbS hb
              · rintro σ HE ⟨⟨v8', rfl⟩, sE, hR⟩
                walk_at "rd"
                exact ⟨_, rfl, sE.keep, hR⟩
            · rintro σ' HD ⟨v8', rfl, kD, hR⟩
              have fS : ∀ b, HA b = none → b ∉ S := fun b e m => (hSA b m).2 e
              have fD : ∀ b o, HA b = none → HC b = some o → HD b = some o := fun b o e h => kD.get (fS b e) h
              have fB : ∀ {b o}, HB b = some o → HC b = some o := fun e => kC.get List.not_mem_nil e
              have ts : TS K x y z q p1 p2 w r1 r2 as1 as2 HD := ⟨fD _ _ nq (fB hq), fD _ _ np1 (fB hp1), fD _ _ np2 (fB hp2), fD _ _ (kB.none nw) hw,
                (ex1.kp fun b o e h => fD b o e (fB h)).rebase fun _ _ => rfl, (ex2.kp fun b o e h => fD b o e (fB h)).rebase fun _ _ => rfl,
                ⟨d1, fD _ _ (kB.none nr1) hr1, fD _ _ (kB.none nd1) hd1⟩, ⟨d2, fD _ _ (kB.none nr2) hr2, fD _ _ (kB.none nd2) hd2⟩, fun v hv => (hR v hv).sm (by omega)⟩
              have sD : Stt H [] (dled st c ms) HD := (sA'.1.after0 (kB.trans kC (fun _ h => nomatch h))).after kD (fun b hb => .inr (hSA b hb).1) fun e me hb => absurd hb (hSd e me)
              clear sA' hR kD fD fB fS hd1 hr1 hd2 hr2 hw ex1 ex2 hq hp1 hp2 kB kC nw nr1 nr2 nd1 nd2 nq np1 np2 rx ry rz hSA hSd
              walk_at "rd"
              refine Rd.cut (fun σ' H' => ∃ v9', σ' = [some (.ref a), some (.ref st), some (.int (0 + (i : Int))), some x, some y, some z, some (.ref q), some (.ref w), v8', v9', v10, v11, v12, v13, v14] ∧ TS K x y z q p1 p2 w r1 r2 as1 as2 H' ∧ Stt H [] (dled st c ms) H') ?_ ?_
              · have hQ : SqL K HD q [.ref p1, .ref p2] := SqL.of ts.hq
                walk_at "rd"
                refine ⟨q, rfl, ⟨_, hQ⟩, ?_⟩
                refine Rd.loop (walk_list (xs := [V.ref p1, V.ref p2])) (fun j σ H' => (∃ v9', σ = [some (.ref a), some (.ref st), some (.int (0 + (i : Int))), some x, some y, some z, some (.ref q), some (.ref w), v8', v9', v10, v11, v12, v13, v14]) ∧ TS K x y z q p1 p2 w r1 r2 as1 as2 H' ∧ Stt H [] (dled st c ms) H') ⟨⟨_, rfl⟩, ts, sD⟩ (fun j σ H' _ hh => SqL.of hh.2.1.hq) ?_ ?_
                · rintro j v σ HE HE' hj ⟨⟨v9', rfl⟩, tE, sE⟩ ⟨rfl, e3⟩
                  obtain ⟨p, as, rfl, hp, hx⟩ : ∃ p as, v = .ref p ∧ HE' p = some (.lst (as.map V.ref)) ∧ ExL K (fun _ => none) HE' x oneL as := by
                    have e4 := List.mem_of_getElem? e3
                    simp only [List.mem_cons, List.not_mem_nil, or_false] at e4
                    rcases e4 with rfl | rfl
                    · exact ⟨_, _, rfl, tE.h1, tE.e1⟩
                    · exact ⟨_, _, rfl, tE.h2, tE.e2⟩
                  have hmx := (tE.m x List.mem_cons_self).up
                  have sE' : Stt H [] (dled st c ms) HE' ∧ True := ⟨sE, trivial⟩
                  clear sE sD ts
                  walk_at "rd"
                  refine held_ask hp hx fun r HF hr sr => ?_
                  walk_at "rd"
                  refine Rd.lcG (walk_list (xs := List.replicate 11 x)) sr (fun i acc ex => ex = [] ∧ acc = List.replicate i (.bl true)) ⟨rfl, rfl⟩ (fun H' D acc ex _ z => z.sqL (List.mem_cons_of_mem _ (List.mem_append_right _ List.mem_cons_self))) ?_ ?_
                  · rintro D hD j x' HX HY acc ex hj2 ⟨rfl, rfl⟩ hac s5 ⟨rfl, e5⟩
                    cases List.eq_of_mem_replicate (List.mem_of_getElem? e5)
                    walk_at "rd"
                    refine same_ask s5 (hmx.kp s5.keep) fun HG s6 => ?_
                    have hj3 : j < 11 := by simpa using hj2
                    exact Rd.lcE s6 hD (by omega) hac ⟨rfl, by rw [List.replicate_succ']⟩
                  · rintro D HG acc ex hD ⟨rfl, rfl⟩ s6
                    have s7 : Stt HE' [] ((D, Is (.lst ((List.replicate 11 true).map V.bl))) :: ([] ++ [(r, Is (.lst (List.replicate 11 x)))])) HG := by
                      rw [List.map_replicate]
                      rw [List.length_replicate] at s6
                      exact s6
                    clear s6
                    walk_at "rd"
                    refine Rd.allL s7 (by walk_at "mem") ?_
                    have e6 : (List.replicate 11 true).all id = true := by decide
                    rw [e6]
                    walk_at "rd"
                    exact ⟨⟨_, rfl⟩, tE.kp s7.keep, sE'.1.after0 s7.keep⟩
                · rintro σ HE ⟨⟨v9', rfl⟩, tE, sE⟩
                  walk_at "rd"
                  exact ⟨_, rfl, tE, sE⟩
              · clear ts sD
                rintro σ' HE ⟨v9', rfl, tE, sE⟩
                have sE' : Stt H [] (dled st c ms) HE ∧ True := ⟨sE, trivial⟩
                clear sE
                walk_at "rd"
                refine Rd.cut (fun σ' H' => σ' = [some (.ref a), some (.ref st), some (.int (0 + (i : Int))), some x, some y, some z, some (.ref q), some (.ref w), v8', v9', v10, v11, v12, v13, v14] ∧ TS K x y z q p1 p2 w r1 r2 as1 as2 H' ∧ Stt H [] (dled st c ms) H') ?_ ?_
                · have hW : SqL K HE w [.ref r1, .ref r2] := SqL.of tE.hw
                  have n0 : Stt HE [] [] HE := Stt.nil
                  have t0 := T.x_BadRow.xf
                  have t1 := T.a_BadRow_task
                  have t2 := T.a_BadRow_place
                  have t3 := T.a_BadRow_reason
                  walk_at "rd"
                  refine ⟨w, rfl, ⟨_, hW⟩, ?_⟩
                  refine Rd.lcG (walk_list (xs := [V.ref r1, V.ref r2])) n0 (fun i acc ex => ex = [] ∧ acc = List.replicate i (.bl true)) ⟨rfl, rfl⟩ (fun H' D acc ex _ z => z.upL hW) ?_ ?_
                  · rintro D hD j v HX HY acc ex hj ⟨rfl, rfl⟩ hac s5 ⟨rfl, e5⟩
                    obtain ⟨r, d, rfl, hr, hd⟩ : ∃ r d, v = .ref r ∧ HE r = some (exo r (He.ga K "BadRow") (some d)) ∧ HE d = some (exd d [("reason", z), ("place", y), ("task", x)]) := by
                      have e4 := List.mem_of_getElem? e5
                      simp only [List.mem_cons, List.not_mem_nil, or_false] at e4
                      rcases e4 with rfl | rfl
                      · obtain ⟨d, h1, h2⟩ := tE.w1
                        exact ⟨_, d, rfl, h1, h2⟩
                      · obtain ⟨d, h1, h2⟩ := tE.w2
                        exact ⟨_, d, rfl, h1, h2⟩
                    clear n0
                    walk_at "rd"
                    rename_i u1 HG1 hu1 s6 u2 HG2 hu2 s7
                    refine same_ask s7 (.lst (s7.get (by walk_at "mem")) (s7.get (by walk_at "mem")) rfl (Nat.le_of_ble_eq_true rfl) fun i a b e1 e2 => ?_) fun HG s8 => ?_
                    · cases e1.symm.trans e2
                      exact (tE.m a (List.mem_of_getElem? e1)).kp s7.keep
                    · have hj3 : j < 2 := hj
                      exact Rd.lcE (s8.sub (by walk_at "subl")) hD (by omega) hac ⟨rfl, by rw [List.replicate_succ']⟩
                  · rintro D HG acc ex hD ⟨rfl, rfl⟩ s6
                    have s7 : Stt HE [] ((D, Is (.lst ((List.replicate 2 true).map V.bl))) :: ([] ++ [])) HG := by
                      rw [List.map_replicate]
                      exact s6
                    clear s6 n0
                    walk_at "rd"
                    refine Rd.allL s7 (by walk_at "mem") ?_
                    have e6 : (List.replicate 2 true).all id = true := by decide
                    rw [e6]
                    walk_at "rd"
                    exact ⟨rfl, tE.kp s7.keep, sE'.1.after0 s7.keep⟩
                · clear tE sE'
                  rintro σ' HF ⟨rfl, tF, sF⟩
                  have sF' : Stt H [] (dled st c ms) HF ∧ True := ⟨sF, trivial⟩
                  clear sF
                  walk_at "rd"
                  refine Rd.cut (fun σ' H' => ∃ m b1 b2 : Addr, σ' = [some (.ref a), some (.ref st), some (.int (0 + (i : Int))), some x, some y, some z, some (.ref q), some (.ref w), v8', some (.ref m), v10, v11, v12, v13, v14] ∧ H' m = some (.lst (as1.map V.ref ++ [.ref r2, .ref b1, .ref b2])) ∧ H' b1 = some (exo b1 (He.ga K "BadWish") none) ∧ H' b2 = some (exo b2 (He.ga K "BadRun") none) ∧ TS K x y z q p1 p2 w r1 r2 as1 as2 H' ∧ Stt H [] (dled st c ms) H') ?_ ?_
                  · have hQ : SqL K HF q [.ref p1, .ref p2] := SqL.of tF.hq
                    have hW : SqL K HF w [.ref r1, .ref r2] := SqL.of tF.hw
                    have x1 := T.x_BadWish.oex
                    have x2 := T.x_BadRun.oex
                    have hl1 : (as1.map V.ref).length = 11 := by rw [List.length_map, exl_len tF.e1]; rfl
                    have n0 : Stt HF [] [(p1, Is (.lst (as1.map V.ref)))] HF := Stt.nil.add ⟨_, tF.h1, rfl⟩ (by simp)
                    walk_at "rd"
                    rename_i b1 Hb hb1 sb b2 Hc hb2 sc n Hd hn sd m He hm' se
                    exact ⟨m, b1, b2, rfl, se.get (by walk_at "mem"), se.get (by walk_at "mem"), se.get (by walk_at "mem"), tF.kp se.keep, sF'.1.after0 se.keep⟩
                  · clear tF sF'
                    rintro σ' HG ⟨m, b1, b2, rfl, hm', hb1, hb2, tG, sG⟩
                    have hl1 : as1.length = 11 := exl_len tG.e1
                    obtain ⟨L, hL⟩ : ∃ L : List V, L = as1.map V.ref ++ [V.ref r2, V.ref b1, V.ref b2] := ⟨_, rfl⟩
                    rw [← hL] at hm'
                    have hLl : L.length = 14 := by rw [hL]; simp [hl1]
                    have hLk : ∀ (k : Nat) (v : V), L[k]? = some v → ∃ (b : Addr) (cn : Str), v = .ref b ∧ cls15[k]? = some cn ∧ ExAt HG b (He.ga K cn) := by
                      intro k v hk
                      rw [hL] at hk
                      by_cases hk1 : k < 11
                      · rw [List.getElem?_append_left (by simpa [hl1] using hk1), List.getElem?_map] at hk
                        cases e4 : as1[k]? with
                        | none => rw [e4] at hk; cases hk
                        | some b =>
                          rw [e4] at hk
                          cases hk
                          obtain ⟨cn, h1, h2⟩ := exl_at tG.e1 e4
                          refine ⟨b, cn, rfl, ?_, h2⟩
                          have : ∀ k < 11, cls15[k]? = (oneL.map (·.1))[k]? := by decide +kernel
                          rw [this k hk1]
                          exact h1
                      · rw [List.getElem?_append_right (by simp [hl1]; omega)] at hk
                        have hlen := (List.getElem?_eq_some_iff.mp hk).1
                        simp [hl1] at hlen
                        obtain ⟨j, rfl⟩ : ∃ j, k = 11 + j := ⟨k - 11, by omega⟩
                        have hj : j = 0 ∨ j = 1 ∨ j = 2 := by omega
                        simp only [List.length_map, hl1, Nat.add_sub_cancel_left] at hk
                        rcases hj with rfl | rfl | rfl
                        · cases hk
                          obtain ⟨d, h1, h2⟩ := tG.w2
                          exact ⟨_, "BadRow", rfl, rfl, .inr ⟨d, _, h1, h2⟩⟩
                        · cases hk
                          exact ⟨_, "BadWish", rfl, rfl, .inl hb1⟩
                        · cases hk
                          exact ⟨_, "BadRun", rfl, rfl, .inl hb2⟩
                    have hM : SqL K HG m L := SqL.of hm'
                    clear hm' hb1 hb2 tG
                    walk_at "rd"
                    refine Rd.cut (fun σ' H' => ∃ v10' v11', σ' = [some (.ref a), some (.ref st), some (.int (0 + (i : Int))), some x, some y, some z, some (.ref q), some (.ref w), v8', some (.ref m), v10', v11', v12, v13, v14] ∧ Stt H [] (dled st c ms) H') ?_ ?_
                    · walk_at "rd"
                      refine ⟨.ref m, rfl, m, L, rfl, hM, ?_⟩
                      refine Rd.loop (walk_enum (xs := L)) (fun j σ H' => (∃ v10' v11', σ = [some (.ref a), some (.ref st), some (.int (0 + (i : Int))), some x, some y, some z, some (.ref q), some (.ref w), v8', some (.ref m), v10', v11', v12, v13, v14]) ∧ Kp [] HG H' ∧ Stt H [] (dled st c ms) H') ⟨⟨_, _, rfl⟩, Kp.refl _, sG⟩ (fun j σ H' _ hh => hh.2.1.seqL List.not_mem_nil hM) ?_ ?_
                      · rintro j v σ HX HY hj ⟨⟨v10', v11', rfl⟩, kH, sH⟩ ⟨t, y1, y2, rfl, ht, rfl, e1, e2⟩
                        cases e1
                        obtain ⟨b, cn, rfl, hc, hA⟩ := hLk j y2 e2
                        rw [hLl] at hj
                        obtain ⟨hcm, hfl, hsh⟩ := flags_cls j hj cn hc
                        have hA' : ExAt HX b (He.ga K cn) := ExAt.kp kH hA
                        have hC := T.exC cn hcm
                        have kL : PySem.W.kitOne K (.ref (He.ga K cn)) (.ref (He.ga K "LoopError")) = some true := by
                          have e := T.kitM cn hcm "LoopError" (by decide +kernel)
                          rw [show (decide (cn = ("LoopError" : Str)) || decide (("LoopError" : Str) = "LoopError")) = true by rw [Bool.or_eq_true]; exact .inr (by decide +kernel)] at e
                          exact e
                        have kV := T.kitV cn hcm
                        have sH' : Stt H [] (dled st c ms) HX ∧ True := ⟨sH, trivial⟩
                        clear sH sG
                        have n0 : Stt HX [] [(t, Is (.tup [.int (j : Nat), .ref b]))] (upd HX t (.tup [.int (j : Nat), .ref b])) := Stt.nil.new ht _
                        have hM' : SqL K HX m L := kH.seqL List.not_mem_nil hM
                        walk_at "rd"
                        refine cls_ask n0 hcm hA' fun r HR hr sr => ?_
                        clear n0
                        walk_at "rd"
                        refine Rd.lcG (walk_range (lo := 0) (n := Int.toNat (L.length : Int))) sr (fun i acc ex => ex = [] ∧ acc = (List.range i).map fun i => V.bl (decide (i = j))) ⟨rfl, rfl⟩ (fun _ _ _ _ _ _ => trivial) ?_ ?_
                        · rintro D hD i' x' HU HW acc ex hi' ⟨rfl, rfl⟩ hac s5 ⟨rfl, rfl⟩
                          rw [hLl] at hi'
                          have hi3 : i' < 14 := hi'
                          walk_at "rd"
                          refine Rd.lcE s5 hD (by omega) hac ⟨rfl, ?_⟩
                          rw [List.range_succ, List.map_append]
                          have e7 : (V.int (0 + (i' : Int)) = V.int (j : Int)) = (i' = j) := by
                            apply propext
                            constructor
                            · intro h
                              have := V.int.inj h
                              omega
                            · rintro rfl
                              rw [Int.zero_add]
                          simp [e7]
                          exact ⟨fun h => by omega, fun h => by omega⟩
                        · rintro D HU acc ex hD ⟨rfl, rfl⟩ s5
                          clear sr
                          walk_at "rd"
                          have e8 : DpAll K HU (cls14.map fun y => V.bl (decide (cn = y))) ((flags j 14).map PyData.bool) := by
                            have := dpAll_bl (K := K) (H := HU) (flags j 14)
                            rw [← hfl, List.map_map] at this
                            rw [← hfl, List.map_map]
                            exact this
                          have e9 : DpAll K HU ((List.range (L.length : Int).toNat).map fun i => V.bl (decide (i = j))) ((flags j 14).map PyData.bool) := by
                            have := dpAll_bl (K := K) (H := HU) (flags j 14)
                            rw [hLl]
                            unfold flags at this
                            rw [List.map_map] at this
                            exact this
                          have q1 : SqL K HU r (cls14.map fun y => V.bl (decide (cn = y))) := s5.sqL (List.mem_cons_of_mem _ List.mem_cons_self)
                          have q2 : SqL K HU D ((List.range (L.length : Int).toNat).map fun i => V.bl (decide (i = j))) := s5.sqL List.mem_cons_self
                          refine ⟨_, _, .lst q1 e8, .lst q2 e9, hsh, hsh, ?_⟩
                          have e10 : PyData.eqv (.list ((flags j 14).map PyData.bool)) (.list ((flags j 14).map PyData.bool)) = true := by
                            have : ∀ j < 14, PyData.eqv (.list ((flags j 14).map PyData.bool)) (.list ((flags j 14).map PyData.bool)) = true := by decide +kernel
                            exact this j hj
                          rw [e10]
                          walk_at "rd"
                          exact ⟨⟨_, _, rfl⟩, kH.trans s5.keep (fun _ h => nomatch h), sH'.1.after0 s5.keep⟩
                      · rintro σ HX ⟨⟨v10', v11', rfl⟩, kH, sH⟩
                        walk_at "rd"
                        exact ⟨_, _, rfl, sH⟩
                    · clear sG
                      rintro σ' HH ⟨v10', v11', rfl, sH⟩
                      have sH' : Stt H [] (dled st c ms) HH ∧ True := ⟨sH, trivial⟩
                      clear sH
                      have x0 := T.x_LoopError.oex
                      have n0 : Stt HH [] [] HH := Stt.nil
                      walk_at "rd"
                      refine Rd.cut (fun σ' H' => ∃ b, σ' = [some (.ref a), some (.ref st), some (.int (0 + (i : Int))), some x, some y, some z, some (.ref q), some (.ref w), v8', some (.ref m), v10', v11', some (.ref b), v13, v14] ∧ H' b = some (exo b (He.ga K "LoopError") none) ∧ Stt H [] (dled st c ms) H') ?_ ?_
                      · walk_at "rd"
                        rename_i b Hb hb sb
                        exact ⟨b, rfl, sb.get (by walk_at "mem"), sH'.1.after0 sb.keep⟩
                      · clear n0 sH'
                        rintro σ' HI ⟨b, rfl, hb, sI⟩
                        have sI' : Stt H [] (dled st c ms) HI ∧ True := ⟨sI, trivial⟩
                        clear sI
                        have n0 : Stt HI [] [] HI := Stt.nil
                        have hcm : ("LoopError" : Str) ∈ cls15 := by decide +kernel
                        have hA : ExAt HI b (He.ga K "LoopError") := .inl hb
                        have hC := T.exC _ hcm
                        have kV := T.kitV _ hcm
                        walk_at "rd"
                        refine cls_ask n0 hcm hA fun r HR hr sr => ?_
                        clear n0
                        have e7 : (cls14.map fun y => V.bl (decide (("LoopError" : Str) = y))) = (cls14.map fun y => decide (("LoopError" : Str) = y)).map V.bl := by rw [List.map_map]; rfl
                        rw [e7] at sr
                        walk_at "rd"
                        refine Rd.anyL sr (by walk_at "mem") ?_
                        have e8 : (cls14.map fun y => decide (("LoopError" : Str) = y)).any id = false := by decide +kernel
                        rw [e8]
                        walk_at "rd"
                        exact ⟨_, _, _, _, _, _, _, _, _, _, _, _, _, rfl, sI'.1.after0 sr.keep⟩
    · rintro σ H2 ⟨v2, v3, v4, v5, v6, v7, v8, v9, v10, v11, v12, v13, v14, rfl, s2⟩
      walk_at "rd"
      exact k _
end

end
def loose0 : List Str := ["LoopError", "BadPart", "BadText", "BadTask", "BadCounter", "BadLate", "BadRow", "UnknownTask", "BadPlace", "BadEvent", "BadShift", "BadWish", "BadRun", "BadWeights", "BadWord", "_law_fresh", "_law_fill", "_law_take", "_law_one", "_law_same", "_law_any", "_law_with_one", "_law_by_place", "_law_held", "_law_classes"]
def loose : List Str := loose0
abbrev R : PySem.W.OpenRow := PySem.W.OpenLaw.row PySem.Challenge.rw_looptimes_k01_errors_made
abbrev hk : PySem.W.Hook := Lt.hookM 4 fa fs fn
def ob (s : PySem.W.SharedT) : He.AlD := Lt.obsMG 4 fa fs fn (HandSHeadRun.getT s)
theorem ob_eq (s : PySem.W.SharedT) : ob s = hk.obs s.abs := Lt.obsMG_eq (HandSHeadRun.getT_eq s)
theorem run (w : World) : HandSHeadRun.RunEq R (PySem.W.view R.prog [27]) hk ob 4000 loose w := by
  intro os
  kernel_rfl

end Law
open PySem PySem.W PySem.Calls PyProof.Rows
set_option maxRecDepth 100000 in
set_option maxHeartbeats 0 in
theorem PySem.Challenge.cw_looptimes_k01_errors_made_holds : PySem.Challenge.rw_looptimes_k01_errors_made.Holds := by
  w_on; o_law
  refine HandSHeadRun.head_any (r := OpenLaw.row PySem.Challenge.rw_looptimes_k01_errors_made) (q := view (OpenLaw.row PySem.Challenge.rw_looptimes_k01_errors_made).prog [27]) (H := Law.hk) (ob := Law.ob) (M := 4000) (loose := Law.loose) (d := HandSHeadRun.topDef (OpenLaw.row PySem.Challenge.rw_looptimes_k01_errors_made).prog 27) (kwd := []) Law.ob_eq
    (by kernel_rfl) (fun s => by kernel_rfl) Law.run (by kernel_rfl) (by kernel_rfl) (by kernel_rfl) (by rfl) (by first | assumption | decide +kernel) (by decide +kernel) ⟨rfl, rfl, rfl, rfl, rfl, by decide +kernel⟩ ?hw ?hc
  case hw => w_witness2
  case hc =>
    refine L2.walk_ofE (l := PySem.Challenge.rw_looptimes_k01_errors_made) (n := 63) (k := 9) (x := "_law_script") (CX := L2.CX0) rfl (by decide) (by kernel_rfl) ⟨rfl, by decide, by decide⟩ ?F (fun _ _ _ _ z => z)
    intro w mg fa h Y G hmg0
    obtain ⟨K, KX, c⟩ := Y
    have hmg : mg ("law" : PySem.Str) = some (.ref fa) := by
      have e : (HandSHeadRun.topDef (OpenLaw.row PySem.Challenge.rw_looptimes_k01_errors_made).prog 27).name = ("law" : PySem.Str) := by kernel_rfl
      rw [← e]
      exact hmg0
    obtain ⟨T⟩ := Law.txt_of KX G c
    have ea := hmg.symm.trans T.g_law
    cases ea
    have b : ∀ (s : Shared) (v : Value), BindsTo s T.fd_law ⟨[v], []⟩ [("_law_script", v)] := fun s v => L2.FunD.bindsA (ps := ["_law_script"]) T.F_law (fun _ _ _ _ _ _ us hl => match us, hl with | [_], _ => rfl) s [v] rfl
    exact ⟨K, T.fd_law, Law.spLaw K, KX, b, fun H a ns hl hO hS => ⟨a, ns, rfl, hS, hl, fun _ => rfl⟩, fun base _ _ => Law.ok_law T⟩

