import PyProof.Rows.All
import Wide.All
import OpenK.AllK
import Wide.FinOn
import KE.KStateDown
import KE.GoesMore
import KE.KOpsOwn
import HandS.ForMost
import HandS.Exc
import HandS.Defaults
import HandS.MakeKw
import HandS.Wide
import HandS.Walk
import HandS.Codes
import HandS.IsInst
import HandS.FStr
import HandS.Zip
import HandS.Style
import HandS.OwnEq
import HandS.SlotsOwn
import HandS.MakeKwOnly
import HandS.Gcd
import HandS.Head0
import HandS.Head1
import HandS.Head2
import HandS.Head3
import HandS.HeadEnd
import HandS.HeadHook1
import HandS.HeadHook2
import HandS.StrMore
import HandS.Replace
import HandS.ExcOwn
import HandS.ExcInit
import HandS.ExcField
import HandS.ClsMeth
import PyProof.ListStr
import HandS.WordsExc
import KE.IntTextText
import PySem.Challenge.RW_looptimes_k05_span_texts
set_option Elab.async false
set_option linter.all false
set_option maxRecDepth 100000
set_option maxHeartbeats 2000000
set_option exponentiation.threshold 20000
set_option Elab.async false
set_option linter.all false
set_option maxRecDepth 100000
set_option maxHeartbeats 2000000
namespace Lt
open PySem PySem.Spec PyProof.Rows L2
/-! ### enumerate(a tuple) -/
section
open AutoSeq1 (wpAny_loadPart')
theorem meets_enumerate_newT (l : Addr) (items : Array Value) (n : Nat) (dct : Option Addr) (sl : Array (Option Value)) :
    Meets (Builtin.«enumerate.__new__» ⟨[.type "enumerate", .ref l], []⟩) (fun _ R s => s.heap.get? l = some { cls := .type "tuple", dict := dct, data := .seq items n, slots := sl } ∧
      R (.ok (.ret (.ref (s.heap.push { cls := .type "tuple_iterator", data := .fields #[.ref l, .int 0 0] }).objs.size)))
        { s with heap := (s.heap.push { cls := .type "tuple_iterator", data := .fields #[.ref l, .int 0 0] }).push { cls := .type "enumerate", data := .fields #[.none, .bool false, .ref s.heap.objs.size, rawInt 0, .none, .none] } }) :=
  .of_wp fun prog w A R s h => by
    obtain ⟨hp, g, d, tk, os⟩ := s; obtain ⟨hl, h⟩ := h
    have hsub := sub_enumerate
    have hL : Heap.IsTuple (Shared.heap ⟨hp, g, d, tk, os⟩) l items := ⟨_, hl, rfl, n, rfl⟩
    wp_walk using wpAny_loadPart' hl
    refine wpAny_stack_any fun st => wpAny_pure ?_
    split
    · rename_i c _ _ _ _ _
      cases (c == Value.type "enumerate")
      · wp_walk using wpAny_loadPart' hl, wpAny_pyIter_tuple hL
        exact ⟨_, rfl, h⟩
      · wp_walk using wpAny_loadPart' hl, wpAny_pyIter_tuple hL
        exact ⟨_, rfl, h⟩
    · wp_walk using wpAny_loadPart' hl, wpAny_pyIter_tuple hL
      exact ⟨_, rfl, h⟩
variable {prog : Program} {w : World} {A : Around} {E : Value → Shared → Prop} {s : Shared}
theorem call_enumerate_tup {l : Addr} {items : Array Value} {Q : Value → Shared → Prop} (hL : s.heap.IsTuple l items)
    (h : ∀ h', IsEnum h' (s.heap.objs.size + 1) s.heap.objs.size 0 .none → h'.IsTupleIter s.heap.objs.size l 0 → h'.objs.size = s.heap.objs.size + 2 →
      (∀ b o, s.heap.get? b = some o → h'.get? b = some o) → Q (.ref (s.heap.objs.size + 1)) { s with heap := h' }) :
    wpAny (model prog w) A (call (.type "enumerate") [.ref l]) Q E s := by
  obtain ⟨⟨c, dct, dt, sl⟩, hl, hc, n, hd⟩ := hL
  replace hc : c = .type "tuple" := hc
  replace hd : dt = .seq items n := hd
  subst hc hd
  refine callType_new F.called_enumerate (by decide) (F.typeCall_enumerate_1 _) (F.newCall_enumerate_1 _) (fun obj => F.args_object_init_2 obj _) F.entry_enumerate_new
    (meets_enumerate_newT l items n dct sl) ⟨hl, ?_⟩
  have hz : (s.heap.push { cls := .type "tuple_iterator", data := .fields #[.ref l, .int 0 0] }).objs.size = s.heap.objs.size + 1 := Heap.size_push ..
  show _ ∧ _
  rw [hz]
  have he : IsEnum ((s.heap.push { cls := .type "tuple_iterator", data := .fields #[.ref l, .int 0 0] }).push
      { cls := .type "enumerate", data := .fields #[.none, .bool false, .ref s.heap.objs.size, rawInt 0, .none, .none] }) (s.heap.objs.size + 1) s.heap.objs.size 0 .none := by
    have := Heap.get?_push_size (s.heap.push { cls := .type "tuple_iterator", data := .fields #[.ref l, .int 0 0] })
      (o := { cls := .type "enumerate", data := .fields #[.none, .bool false, .ref s.heap.objs.size, rawInt 0, .none, .none] }) rfl
    rw [hz] at this; exact this
  refine ⟨⟨_, he, rfl⟩, h _ he ⟨_, Heap.get?_push_of_some _ (Heap.get?_push_size _ rfl), rfl, rfl⟩ (by rw [Heap.size_push, hz]) fun b o x => Heap.get?_push_of_some _ (Heap.get?_push_of_some _ x)⟩
end
def IteT (K : PySem.W.Frag) (a : Addr) : It :=
  ⟨fun i H => ∃ (xs : List V) (x : V), SqT K H a xs ∧ xs[i]? = some x, fun i H v H' => ∃ T x, v = .ref T ∧ H T = none ∧ H' = upd H T (.tup [.int (i : Nat), x]) ∧ ∀ xs, SqT K H a xs → xs[i]? = some x, fun i H => ∃ xs : List V, SqT K H a xs ∧ xs.length ≤ i⟩
theorem tup_ne_iter {h : Heap} {t it a : Addr} {i : Nat} {items : Array Value} (ht : h.IsTuple t items) (hi : h.IsTupleIter it a i) : t ≠ it := by
  rintro rfl
  obtain ⟨o, ho, hc, _⟩ := ht
  obtain ⟨o2, ho2, hc2, _⟩ := hi
  rw [ho] at ho2
  cases ho2
  rw [hc] at hc2
  injection hc2 with q
  exact absurd q (by decide)
theorem turn_enumT {P : Program} {w : World} {K : PySem.W.Frag} {elts : List Expr} {kk : Nat} {tpos : Pos} (a e it : Addr) :
    Turn P w K (.Tuple elts kk tpos) (IteT K a) [e, it] e (fun i h => (∃ old, IsEnum h e it ((i : Nat) : Int) old) ∧ h.IsTupleIter it a i ∧ e ≠ it) where
  mem := by simp
  obj := fun i h st b hb => by
    obtain ⟨⟨old, he⟩, ⟨o, ho, hc, hd⟩, _⟩ := st
    have e' : b = e ∨ b = it := by simpa using hb
    rcases e' with z | z
    · rw [z]; exact ⟨_, he, fun v q => nomatch q⟩
    · rw [z]; exact ⟨o, ho, fun v q => by rw [hd] at q; cases q⟩
  keep := fun i h h' st k => let ⟨⟨old, he⟩, hi, hne⟩ := st; ⟨⟨old, k e (by simp) _ he⟩, hi.at fun o q => k it (by simp) o q, hne⟩
  item := by
    intro X hP hw hK hc i pins s σ H E I hf st hg
    subst hP hw hK
    obtain ⟨⟨old, he⟩, hit, hne⟩ := st
    obtain ⟨xs, x, hq, hx⟩ := hg
    obtain ⟨its, rv, p, hz⟩ := I.tuple hq
    obtain ⟨u, hu, ru⟩ := rv.get hx
    have ht : s.heap.IsTuple a its.toArray := p
    have hel : e < s.heap.objs.size := Heap.lt_size he
    have hil : it < s.heap.objs.size := by obtain ⟨_, q, _⟩ := hit; exact Heap.lt_size q
    have hane : a ≠ it := tup_ne_iter ht hit
    have hea : e ≠ a := by
      rintro rfl
      obtain ⟨o, ho, hc2, _⟩ := ht
      rw [show s.heap.get? e = some _ from he] at ho
      cases ho
      injection hc2 with q
      exact absurd q (by decide)
    have hlt : i < its.toArray.size := by
      have q := (List.getElem?_eq_some_iff.mp hu).1
      simpa using q
    refine wpAny_pyNext_enum_itemD (Draws.tuple (A := X.A.in1) (I.ok.hd hc) it a hane its.toArray) he ⟨hit, ht⟩ hlt hne (by simp [hea, hne]) fun x' h' tk hx' ho hst hT hsz hk => ?_
    have ex : x' = u := by
      have hx2 : its.toArray[i]? = some x' := hx'
      have hu2 : its.toArray[i]? = some u := by simpa using hu
      rw [hu2] at hx2
      cases hx2
      rfl
    subst ex
    refine ⟨_, rfl, wpAny_letOwnedTupleGo_enum (s := { s with heap := h', toks := tk + 1 }) ho fun h'' he' sb => ?_⟩
    have hT2 : h''.get? s.heap.objs.size = some { cls := .type "tuple", data := .seq #[.int i tk, x'] } := (sb.2 _ (Nat.ne_of_gt hel)).trans hT
    have new : ObjOk X.prog X.w (upd H s.heap.objs.size (.tup [.int (i : Nat), x])) h'' s.heap.objs.size (.tup [.int (i : Nat), x]) :=
      ⟨by show 2 ≤ sizeLine; decide, [.int i tk, x'], .cons ⟨_, rfl⟩ (.cons ru .nil), ⟨_, hT2, rfl, _, rfl⟩⟩
    have I1 : Inv X pins σ (upd H s.heap.objs.size (.tup [.int (i : Nat), x])) { s with heap := h'', toks := tk + 1 } :=
      I.turnedNew (ch := [e, it]) (fun b ob hb q => (sb.2 b (fun z => hb (by simp [z]))).trans (hk b ob (fun z => hb (by simp [z])) (fun z => hb (by simp [z])) q)) hf (Nat.le_refl _) new
    refine ⟨.ref s.heap.objs.size, _, I1, rfl, ⟨_, x, rfl, I.hok.fresh (Nat.le_refl _), rfl, fun ys hy => by rw [I.tuple_inj hy hq]; exact hx⟩, ⟨⟨x', ?_⟩, hst.1.at fun o q => (sb.2 it (Ne.symm hne)).trans q, hne⟩, fun b hb => ?_⟩
    · have e1 : ((i + 1 : Nat) : Int) = (i : Int) + 1 := by omega
      rw [e1]; exact he'
    · have hb' : b < s.heap.objs.size := by
        have e' : b = e ∨ b = it := by simpa using hb
        rcases e' with z | z
        · rw [z]; exact hel
        · rw [z]; exact hil
      rw [upd_ne (Nat.ne_of_lt hb')]
      exact (hf b hb).1
  done := by
    intro X hP hw hK hc i pins s σ H E I hf st hg
    subst hP hw hK
    obtain ⟨⟨old, he⟩, hit, hne⟩ := st
    obtain ⟨xs, hq, hx⟩ := hg
    obtain ⟨its, rv, p, hz⟩ := I.tuple hq
    have ht : s.heap.IsTuple a its.toArray := p
    obtain ⟨f0, f1, f2, f3, f4, f5⟩ := hf it (by simp)
    have hl := rv.length
    have hT : s.TypeIs (.ref e) "enumerate" := ⟨_, he, rfl⟩
    have hane : a ≠ it := tup_ne_iter ht hit
    unfold pyNext
    refine wpAny_bind (wpAny_attempt (wpAny_callSpecial?_slot (name := Str.ofString "__next__") hT F.slot_enumerate_next
      (wpAny_call_entry F.slot_enumerate_next hT F.entry_enumerate_next ?_ (F.args_enumerate_next_1 _))))
    show wpAny _ _ (field (.ref e) 2 >>= _) _ _ _
    refine wpAny_bind (wpAny_field he rfl (x := .ref it) rfl ?_)
    refine wpAny_bind (wpAny_nextOf_tuple_end (I.ok.hd hc) hit ht (by simp; omega) fun h' x he' hx' => ?_)
    obtain ⟨o, ho, hc⟩ := hx'
    refine wpAny_bind (wpAny_isInstance (T := "StopIteration") (b := true) ⟨o, ho, hc⟩ isSubtype_stop ?_)
    exact wpAny_pure ⟨rfl, I.turned (t' := s.toks) (fun b o hb q => he' b o hb q) f0 f1 f3 f4 f5⟩
  self := fun A i s Q E st h => let ⟨⟨_, he⟩, _⟩ := st; wpAny_pyIter_enum he h
def iEnumT (K : PySem.W.Frag) (ta : TA) : TI := fun σ H R => ta σ H fun vs H1 => ∃ a xs, vs = [.ref a] ∧ SqT K H1 a xs ∧ R (IteT K a) H1
theorem pi_enumT {X : Cx} {e : Expr} {ta : TA} {p pos tpos : Pos} {elts : List Expr} {kk : Nat} (hg : Gl X "enumerate") (hm : X.mg "enumerate" = none) (ha : PA X [e] ta) (hs : starEach [e] X.env = [(false, eval e X.env)] := by rfl) :
    PI X (.Tuple elts kk tpos) (.Call (.Name "enumerate" p) [e] [] pos) (iEnumT X.K ta) := by
  refine ⟨fun pins s σ H R I h => ?_⟩
  refine Call_ (ld_blt I hg hm boot_enumerate (PyProof.Rows.callWith_type1 (thn (ha.run pos pins s σ H _ I h) fun us s1 ⟨vs, H1, I1, r1, q1⟩ => ?_) hs rfl))
  obtain ⟨a, xs, ex, hq, q⟩ := q1
  subst ex
  cases r1 with
  | cons r rr =>
    cases rr
    cases r
    obtain ⟨its, rv, p', hz⟩ := I1.tuple hq
    refine call_enumerate_tup (show s1.heap.IsTuple a its.toArray from p') fun h' he hit hsz hk => wpAny_pyIter_enum he ?_
    have I2 : Inv X pins σ H1 { s1 with heap := h' } := I1.kept (t' := s1.toks) hk
    refine ⟨s1.heap.objs.size + 1, [s1.heap.objs.size + 1, s1.heap.objs.size], _, _, H1, rfl, I2, turn_enumT a (s1.heap.objs.size + 1) s1.heap.objs.size, ⟨⟨.none, he⟩, hit, Nat.succ_ne_self _⟩, fun b hb => ?_, q⟩
    have e' : b = s1.heap.objs.size + 1 ∨ b = s1.heap.objs.size := by simpa using hb
    have hle : s1.heap.objs.size ≤ b := by
      rcases e' with z | z
      · rw [z]; exact Nat.le_add_right _ _
      · rw [z]; exact Nat.le_refl _
    exact I1.fpOk hle (I1.hok.fresh hle)
theorem walk_enumT {K : PySem.W.Frag} {a : Addr} {xs : List V} : Walk (IteT K a) xs.length (fun H => SqT K H a xs) (YPair (fun i => some (.int (i : Nat))) (fun i => xs[i]?)) := by
  refine ⟨fun i _ hi q => ⟨xs, xs[i], q, by simp [hi]⟩, fun _ q => ⟨xs, q, Nat.le_refl _⟩, fun i H v H' _ q y => ?_⟩
  obtain ⟨T, x, h1, h2, h3, h4⟩ := y
  exact ⟨T, .int (i : Nat), x, h1, h2, h3, rfl, h4 xs q⟩
/-! ### a Hook with further facts -/
def obsM (fa : List He.Fa) (fs : List (PySem.W.Frag → Bool)) (fn : List He.DefD) (K : PySem.W.Frag) : He.AlD := ((fa.all fun f => f.ok K) && ((fs.all fun f => f K) && fn.all fun d => d.ok K), fn.map fun d => He.fnW K d.at_)
def SaysM (fa : List He.Fa) (fs : List (PySem.W.Frag → Bool)) (fn : List He.DefD) (K : PySem.W.Frag) : Prop := obsM fa fs fn K = He.valD fn
def obsMG (n : Nat) (fa : List He.Fa) (fs : List (PySem.W.Frag → Bool)) (fn : List He.DefD) (g : Addr → Option Obj) : He.AlD := obsM fa fs fn (He.frG g (He.asD g n))
def hookM (n : Nat) (fa : List He.Fa) (fs : List (PySem.W.Frag → Bool)) (fn : List He.DefD) : PySem.W.Hook where
  α := He.AlD
  obs := fun s => obsMG n fa fs fn s.heap.get?
  val := fun _ => He.valD fn
  says := fun _ h => ∃ K : PySem.W.Frag, K.In h ∧ SaysM fa fs fn K
  of := fun _ _ e => ⟨_, He.frG_in, e⟩
  keeps := fun _ _ _ ⟨K, hK, c⟩ k => ⟨K, PySem.W.Frag.In.keeps hK k, c⟩
theorem obsMG_eq {n : Nat} {fa : List He.Fa} {fs : List (PySem.W.Frag → Bool)} {fn : List He.DefD} {g : Addr → Option Obj} {s : Shared} (h : ∀ a, g a = s.heap.get? a) : obsMG n fa fs fn g = (hookM n fa fs fn).obs s := by
  have e : g = s.heap.get? := funext h
  rw [e] <;> rfl
section
variable {fa : List He.Fa} {fs : List (PySem.W.Frag → Bool)} {fn : List He.DefD} {K : PySem.W.Frag}
theorem SaysM.fact (c : SaysM fa fs fn K) (i : Nat) {f : He.Fa} (h : fa[i]? = some f) : f.ok K = true := by
  have c1 := (He.ba (show ((fa.all fun f => f.ok K) && ((fs.all fun f => f K) && fn.all fun d => d.ok K)) = true from congrArg (fun z : He.AlD => z.1) c)).1
  exact List.all_eq_true.mp c1 f (List.mem_of_getElem? h)
theorem SaysM.chk (c : SaysM fa fs fn K) (i : Nat) {f : PySem.W.Frag → Bool} (h : fs[i]? = some f) : f K = true := by
  have c1 := (He.ba (He.ba (show ((fa.all fun f => f.ok K) && ((fs.all fun f => f K) && fn.all fun d => d.ok K)) = true from congrArg (fun z : He.AlD => z.1) c)).2).1
  exact List.all_eq_true.mp c1 f (List.mem_of_getElem? h)
theorem SaysM.def_ (c : SaysM fa fs fn K) (i : Nat) {d : He.DefD} (h : fn[i]? = some d) : ∃ fd, FunD K d.name d.qual d.params d.body d.scope (d.dvs K) (d.kws K) (He.fAd K d.at_) fd := by
  have c2 := (He.ba (He.ba (show ((fa.all fun f => f.ok K) && ((fs.all fun f => f K) && fn.all fun d => d.ok K)) = true from congrArg (fun z : He.AlD => z.1) c)).2).2
  have e : fn.map (fun d => He.fnW K d.at_) = fn.map He.DefD.val := congrArg (fun z : He.AlD => z.2) c
  have e2 : (fn.map fun d => He.fnW K d.at_)[i]? = (fn.map He.DefD.val)[i]? := by rw [e]
  rw [List.getElem?_map, List.getElem?_map, h] at e2
  exact He.DefD.funD (Option.some.inj e2) (List.all_eq_true.mp c2 d (List.mem_of_getElem? h))
end
/-! ### the ledger: what is known of a heap, by addresses -/
abbrev Led := List (Addr × (HO → Prop))
def Is (o : HO) : HO → Prop := fun x => x = o
/-- behind H0: what stood there stands, but for the addresses of S, which hold something -/
def Kp (S : List Addr) (H0 H : Hp) : Prop := ∀ b o, H0 b = some o → H b = some o ∨ (b ∈ S ∧ ∃ u, H b = some u)
structure Stt (H0 : Hp) (S : List Addr) (l : Led) (H : Hp) : Prop where
  keep : Kp S H0 H
  nd : (l.map (·.1)).Nodup
  at_ : ∀ e ∈ l, ∃ o, H e.1 = some o ∧ e.2 o
inductive Put : Led → Addr → (HO → Prop) → Led → Prop where
  | head {a : Addr} {f g : HO → Prop} {l : Led} : Put ((a, f) :: l) a g ((a, g) :: l)
  | tail {a : Addr} {g : HO → Prop} {x : Addr × (HO → Prop)} {l l' : Led} (h : Put l a g l') : Put (x :: l) a g (x :: l')
theorem Kp.refl {S : List Addr} (H : Hp) : Kp S H H := fun _ _ e => .inl e
theorem Kp.none {S : List Addr} {H0 H : Hp} (h : Kp S H0 H) {p : Addr} (hp : H p = none) : H0 p = none := by
  cases e : H0 p with
  | none => rfl
  | some o =>
    rcases h p o e with q | ⟨_, u, q⟩
    · rw [hp] at q; cases q
    · rw [hp] at q; cases q
theorem Kp.trans {S S' : List Addr} {H0 H1 H2 : Hp} (a : Kp S H0 H1) (b : Kp S' H1 H2) (hs : ∀ x ∈ S', x ∈ S ∨ H0 x = Option.none) : Kp S H0 H2 := fun x o e => by
  rcases a x o e with q | ⟨m, u, q⟩
  · rcases b x o q with r | ⟨m, r⟩
    · exact .inl r
    · rcases hs x m with z | z
      · exact .inr ⟨z, r⟩
      · rw [e] at z; cases z
  · rcases b x u q with r | ⟨_, r⟩
    · exact .inr ⟨m, u, r⟩
    · exact .inr ⟨m, r⟩
theorem Kp.same {H0 H : Hp} (h : Kp [] H0 H) : Same H0 H := fun b o e => (h b o e).elim id fun z => nomatch z.1
theorem Kp.of_same {S : List Addr} {H0 H : Hp} (h : Same H0 H) : Kp S H0 H := fun b o e => .inl (h b o e)
theorem Kp.mono {S S' : List Addr} {H0 H : Hp} (h : Kp S H0 H) (hs : ∀ x ∈ S, x ∈ S') : Kp S' H0 H := fun b o e => (h b o e).imp id fun z => ⟨hs b z.1, z.2⟩
theorem Kp.get {S : List Addr} {H0 H : Hp} (h : Kp S H0 H) {a : Addr} {o : HO} (ha : a ∉ S) (e : H0 a = some o) : H a = some o := (h a o e).elim id fun z => absurd z.1 ha
theorem Kp.seqL {S : List Addr} {K : PySem.W.Frag} {H H' : Hp} {l : Addr} {xs : List V} (a : Kp S H H') (hl : l ∉ S) (h : SqL K H l xs) : SqL K H' l xs := by
  rcases h with (h | ⟨o, h⟩) | h
  · exact .inl (.inl (a.get hl h))
  · exact .inl (.inr ⟨o, a.get hl h⟩)
  · exact .inr h
section
variable {H0 H H1 : Hp} {S : List Addr} {l l' : Led} {a p : Addr} {o : HO} {f : HO → Prop}
theorem Put.keys (h : Put l a f l') : l'.map (·.1) = l.map (·.1) := by
  induction h with
  | head => rfl
  | tail h ih => simp only [List.map_cons, ih]
theorem Put.mem (h : Put l a f l') : a ∈ l.map (·.1) := by
  induction h with
  | head => exact List.mem_cons_self
  | tail h ih => exact List.mem_cons_of_mem _ ih
theorem Put.new (h : Put l a f l') (hn : (l.map (·.1)).Nodup) : ∀ e ∈ l', (e = (a, f)) ∨ (e ∈ l ∧ e.1 ≠ a) := by
  induction h with
  | head =>
    intro e he
    rcases List.mem_cons.mp he with z | z
    · exact .inl z
    · refine .inr ⟨List.mem_cons_of_mem _ z, fun q => ?_⟩
      rw [List.map_cons, List.nodup_cons] at hn
      exact hn.1 (List.mem_map.mpr ⟨e, z, q⟩)
  | @tail a g x l l' h ih =>
    intro e he
    rw [List.map_cons, List.nodup_cons] at hn
    rcases List.mem_cons.mp he with z | z
    · subst z
      refine .inr ⟨List.mem_cons_self, fun q => ?_⟩
      exact hn.1 (q ▸ h.mem)
    · rcases ih hn.2 e z with q | ⟨q1, q2⟩
      · exact .inl q
      · exact .inr ⟨List.mem_cons_of_mem _ q1, q2⟩
theorem Stt.nil : Stt H S [] H := ⟨.refl H, List.nodup_nil, fun _ h => nomatch h⟩
theorem Stt.none (h : Stt H0 S l H) (hp : H p = none) : H0 p = none := h.keep.none hp
theorem Stt.get (h : Stt H0 S l H) (m : (a, Is o) ∈ l) : H a = some o := by
  obtain ⟨u, e1, e2⟩ := h.at_ _ m
  rw [e1, show u = o from e2]
theorem Stt.pick (h : Stt H0 S l H) (m : (a, f) ∈ l) : ∃ o, H a = some o ∧ f o := h.at_ _ m
theorem Stt.ne (h : Stt H0 S l H) {b : Addr} {g : HO → Prop} (m : (a, f) ∈ l) (m2 : (b, g) ∈ l) (hd : ∀ o, f o → ¬ g o) : a ≠ b := by
  rintro rfl
  obtain ⟨o, e1, e2⟩ := h.at_ _ m
  obtain ⟨o2, e3, e4⟩ := h.at_ _ m2
  rw [e1] at e3
  cases e3
  exact hd _ e2 e4
theorem Stt.fresh (h : Stt H0 S l H) (hp : H p = Option.none) : p ∉ l.map (·.1) := fun m => by
  obtain ⟨e, me, q⟩ := List.mem_map.mp m
  obtain ⟨o, h1, _⟩ := h.at_ e me
  rw [q, hp] at h1
  cases h1
theorem Stt.new (h : Stt H0 S l H) (hp : H p = Option.none) (o : HO) : Stt H0 S ((p, Is o) :: l) (upd H p o) where
  keep := fun b u e => by
    rcases h.keep b u e with q | ⟨m, v, q⟩
    · exact .inl (by rw [upd_ne (ne_of_none q hp)]; exact q)
    · exact .inr ⟨m, v, by rw [upd_ne (ne_of_none q hp)]; exact q⟩
  nd := by
    rw [List.map_cons]
    exact List.nodup_cons.mpr ⟨h.fresh hp, h.nd⟩
  at_ := fun e m => by
    rcases List.mem_cons.mp m with z | z
    · subst z
      exact ⟨o, upd_same, rfl⟩
    · obtain ⟨u, h1, h2⟩ := h.at_ e z
      exact ⟨u, by rw [upd_ne (ne_of_none h1 hp)]; exact h1, h2⟩
theorem Stt.set (h : Stt H0 S l H) (u : Put l a (Is o) l') (ha : a ∈ S ∨ H0 a = Option.none) : Stt H0 S l' (upd H a o) where
  keep := fun b v e => by
    by_cases hb : b = a
    · subst hb
      rcases ha with z | z
      · exact .inr ⟨z, o, upd_same⟩
      · rw [e] at z; cases z
    · rw [upd_ne hb]
      exact h.keep b v e
  nd := by rw [u.keys]; exact h.nd
  at_ := fun e m => by
    rcases u.new h.nd e m with z | ⟨z1, z2⟩
    · subst z
      exact ⟨o, upd_same, rfl⟩
    · obtain ⟨v, h1, h2⟩ := h.at_ e z1
      exact ⟨v, by rw [upd_ne z2]; exact h1, h2⟩
/-- one entry told otherwise -/
theorem Stt.re (h : Stt H0 S l H) (u : Put l a f l') (hf : ∃ o, H a = some o ∧ f o) : Stt H0 S l' H := ⟨h.keep, by rw [u.keys]; exact h.nd, fun e m => by
  rcases u.new h.nd e m with z | ⟨z1, _⟩
  · subst z
    exact hf
  · exact h.at_ e z1⟩
theorem Stt.sub (h : Stt H0 S l H) (s : List.Sublist l' l) : Stt H0 S l' H := ⟨h.keep, List.Nodup.sublist (s.map _) h.nd, fun e m => h.at_ e (s.subset m)⟩
/-- a further entry, of another kind than all others -/
theorem Stt.add (h : Stt H0 S l H) (hf : ∃ o, H a = some o ∧ f o) (hn : a ∉ l.map (·.1)) : Stt H0 S ((a, f) :: l) H := ⟨h.keep, by
  rw [List.map_cons]
  exact List.nodup_cons.mpr ⟨hn, h.nd⟩, fun e m => by
  rcases List.mem_cons.mp m with z | z
  · subst z
    exact hf
  · exact h.at_ e z⟩
/-- behind a call that changed the addresses of S' alone and left them as they were told -/
theorem Stt.after {S' : List Addr} (h : Stt H0 S l H) (k : Kp S' H H1) (hs : ∀ x ∈ S', x ∈ S ∨ H0 x = Option.none) (hf : ∀ e ∈ l, e.1 ∈ S' → ∃ o, H1 e.1 = some o ∧ e.2 o) : Stt H0 S l H1 := ⟨h.keep.trans k hs, h.nd, fun e m => by
  obtain ⟨o, h1, h2⟩ := h.at_ e m
  by_cases z : e.1 ∈ S'
  · exact hf e m z
  · exact ⟨o, k.get z h1, h2⟩⟩
theorem Stt.after0 (h : Stt H0 S l H) (k : Kp [] H H1) : Stt H0 S l H1 := h.after k (fun _ z => nomatch z) fun _ _ z => nomatch z
/-- .. of one address -/
theorem Stt.after1 (h : Stt H0 S l H) (m : (a, f) ∈ l) (k : Kp [a] H H1) (hs : a ∈ S ∨ H0 a = Option.none) (hf : ∃ o, H1 a = some o ∧ f o) : Stt H0 S l H1 :=
  h.after k (fun x z => by rw [List.mem_singleton.mp z]; exact hs) fun e me z => by
    have q : e.1 = a := List.mem_singleton.mp z
    have : e = (a, f) := by
      have n := h.nd
      have i1 : (a, f).1 = e.1 := q.symm
      exact (inj_of_nodup n me m q)
    subst this
    exact hf
where
  inj_of_nodup : ∀ {l : Led} (_ : (l.map (·.1)).Nodup) {x y : Addr × (HO → Prop)}, x ∈ l → y ∈ l → x.1 = y.1 → x = y
    | [], _, _, _, h, _, _ => nomatch h
    | z :: r, n, x, y, hx, hy, e => by
      rw [List.map_cons, List.nodup_cons] at n
      rcases List.mem_cons.mp hx with q | q
      · rcases List.mem_cons.mp hy with q2 | q2
        · rw [q, q2]
        · exact absurd (List.mem_map.mpr ⟨y, q2, by rw [← e, q]⟩) n.1
      · rcases List.mem_cons.mp hy with q2 | q2
        · exact absurd (List.mem_map.mpr ⟨x, q, by rw [e, q2]⟩) n.1
        · exact inj_of_nodup n.2 q q2 e
/-- .. which is told otherwise behind it -/
theorem Stt.afterX {g : HO → Prop} (h : Stt H0 S ((a, f) :: l) H) (k : Kp [a] H H1) (hs : a ∈ S ∨ H0 a = Option.none) (hg : ∃ o, H1 a = some o ∧ g o) : Stt H0 S ((a, g) :: l) H1 := by
  have h2 : Stt H0 S ((a, fun _ => True) :: l) H := h.re .head (by obtain ⟨o, e, _⟩ := h.pick (a := a) (f := f) List.mem_cons_self; exact ⟨o, e, trivial⟩)
  obtain ⟨o, e, q⟩ := hg
  exact (h2.after1 List.mem_cons_self k hs ⟨o, e, trivial⟩).re .head ⟨o, e, q⟩
theorem Stt.base {S' : List Addr} (h : Stt H0 S l H) (s : List.Sublist l' l) : Stt H S' l' H := ⟨.refl H, List.Nodup.sublist (s.map _) h.nd, fun e m => h.at_ e (s.subset m)⟩
theorem Stt.sqL {K : PySem.W.Frag} {xs : List V} (h : Stt H0 S l H) (m : (a, Is (.lst xs)) ∈ l) : SqL K H a xs := .inl (.inl (h.get m))
theorem Stt.sqT {K : PySem.W.Frag} {xs : List V} (h : Stt H0 S l H) (m : (a, Is (.tup xs)) ∈ l) : SqT K H a xs := .inl (.inl (h.get m))
theorem Stt.sqF {K : PySem.W.Frag} {xs : List V} {fo : Obj} (h : Stt H0 S l H) (m : (a, Is (.frz fo (.lst xs))) ∈ l) : SqL K H a xs := .inl (.inr ⟨fo, h.get m⟩)
end
/-- a draw's state: a list [cells, nth, value, flag]; cells a list of ints -/
def DrS (c : Addr) : HO → Prop := fun o => ∃ (nth val : Int) (fl : Bool), o = .lst [.ref c, .int nth, .int val, .bl fl]
/-! ### readings, one step each -/
namespace Rd
variable {K : PySem.W.Frag} {D : Ends} {σ : L2.St} {H H0 : Hp} {Q : VK} {S : List Addr} {l l' : Led} {t t1 t2 u : TS} {te ta tb tc : TE} {x y v : V} {r : R2} {i j : Nat}
theorem seq (h : t1 { D with nx := t2 D } σ H) : tSeq t1 t2 D σ H := h
theorem cut (Mid : L2.St → Hp → Prop) (h1 : t1 { D with nx := Mid } σ H) (h2 : ∀ σ' H', Mid σ' H' → t2 D σ' H') : C8.tCut t1 t2 D σ H := ⟨Mid, h1, h2⟩
theorem next (h : D.nx σ H) : tNext D σ H := h
theorem brk (h : D.bk σ H) : tBreak D σ H := h
theorem cont (h : D.ct σ H) : tCont D σ H := h
theorem asg (h : te σ H fun x H1 => D.nx (σ.set i (some x)) H1) : tAsg te (gName i) D σ H := h
theorem drop (h : te σ H fun _ H1 => D.nx σ H1) : tDrop te D σ H := h
theorem ret (h : te σ H D.rt) : tRet te D σ H := h
theorem retN (h : D.rt .non H) : tRetN D σ H := h
def Par (D : Ends) (σ : L2.St) (i j : Nat) (vs : List V) (H1 : Hp) : Prop := ∃ v w, vs = [v, w] ∧ D.nx ((σ.set i (some v)).set j (some w)) H1
theorem par {ta : TA} (h : ta σ H fun vs H1 => Par D σ i j vs H1) : tPar i j ta D σ H := h
theorem parL {v w : V} (h : D.nx ((σ.set i (some v)).set j (some w)) H) : Par D σ i j [v, w] H := ⟨v, w, rfl, h⟩
theorem var (e : σ[i]? = some (some v)) (h : Q v H) : tVar i σ H Q := ⟨v, e, h⟩
theorem con (h : Q v H) : tC v σ H Q := h
theorem op (h : ta σ H fun x H1 => tb σ H1 fun y H2 => r x y H2 Q) : tOp r ta tb σ H Q := h
theorem un {r : V → Hp → VK → Prop} (h : ta σ H fun x H1 => r x H1 Q) : tUn r ta σ H Q := h
theorem i0 {g : Int → Int → V} {a b : Int} (h : Q (g a b) H) : rI0 g (.int a) (.int b) H Q := ⟨a, b, rfl, rfl, h⟩
theorem ic {C : Int → Int → Prop} {g : Int → Int → V} {a b : Int} (c : C a b) (h : Q (g a b) H) : rI C g (.int a) (.int b) H Q := ⟨a, b, rfl, rfl, c, h⟩
theorem u1 {g : Int → V} {a : Int} (h : Q (g a) H) : rU g (.int a) H Q := ⟨a, rfl, h⟩
theorem eqS (s : scal x y = true) (h : Q (.bl (decide (x = y))) H) : rEq x y H Q := ⟨s, h⟩
theorem neS (s : scal x y = true) (h : Q (.bl (!decide (x = y))) H) : rNe x y H Q := ⟨s, h⟩
theorem nil {Q : List V → Hp → Prop} (h : Q [] H) : tNil σ H Q := h
theorem cons {ts : TA} {Q : List V → Hp → Prop} (h : te σ H fun x H1 => ts σ H1 fun xs H2 => Q (x :: xs) H2) : tCons te ts σ H Q := h
def Tup (vs : List V) (H1 : Hp) (Q : VK) : Prop := vs.length ≤ sizeLine ∧ ∀ p, H1 p = none → Q (.ref p) (upd H1 p (.tup vs))
def Lst (vs : List V) (H1 : Hp) (Q : VK) : Prop := vs.length ≤ sizeLine ∧ ∀ p, H1 p = none → Q (.ref p) (upd H1 p (.lst vs))
theorem tup {ta : TA} (h : ta σ H fun vs H1 => Tup vs H1 Q) : tTup ta σ H Q := h
theorem lst {ta : TA} (h : ta σ H fun vs H1 => Lst vs H1 Q) : tLst ta σ H Q := h
theorem tupN {vs : List V} (st : Stt H0 S l H) (hz : vs.length ≤ 100000) (k : ∀ p H1, H0 p = none → Stt H0 S ((p, Is (.tup vs)) :: l) H1 → Q (.ref p) H1) : Tup vs H Q :=
  ⟨Nat.le_trans hz (by decide), fun p hp => k p _ (st.none hp) (st.new hp _)⟩
theorem lstN {vs : List V} (st : Stt H0 S l H) (hz : vs.length ≤ 100000) (k : ∀ p H1, H0 p = none → Stt H0 S ((p, Is (.lst vs)) :: l) H1 → Q (.ref p) H1) : Lst vs H Q :=
  ⟨Nat.le_trans hz (by decide), fun p hp => k p _ (st.none hp) (st.new hp _)⟩
theorem ixL {p : Addr} {xs : List V} {z : Int} (st : Stt H0 S l H) (m : (p, Is (.lst xs)) ∈ l) (e : atI xs z = some v) (h : Q v H) : rIxL K (.ref p) (.int z) H Q := ⟨p, xs, z, v, rfl, rfl, st.sqL m, e, h⟩
theorem ixT {p : Addr} {xs : List V} {z : Int} (st : Stt H0 S l H) (m : (p, Is (.tup xs)) ∈ l) (e : atI xs z = some v) (h : Q v H) : rIxT K (.ref p) (.int z) H Q := ⟨p, xs, z, v, rfl, rfl, st.sqT m, e, h⟩
theorem ixLs {p : Addr} {xs : List V} {z : Int} (s : SqL K H p xs) (e : atI xs z = some v) (h : Q v H) : rIxL K (.ref p) (.int z) H Q := ⟨p, xs, z, v, rfl, rfl, s, e, h⟩
def rLenQ (K : PySem.W.Frag) : List V → Hp → VK → Prop := fun xs H Q => ∃ p ys, xs = [V.ref p] ∧ (SqL K H p ys ∨ SqT K H p ys) ∧ Q (V.int (ys.length : Int)) H
theorem cb {r : List V → Hp → VK → Prop} {ta : TA} (h : ta σ H fun vs H1 => r vs H1 Q) : tCB r ta σ H Q := h
theorem lenL {p : Addr} {xs : List V} (st : Stt H0 S l H) (m : (p, Is (.lst xs)) ∈ l) (h : Q (.int (xs.length : Int)) H) : rLenQ K [.ref p] H Q := ⟨p, xs, rfl, .inl (st.sqL m), h⟩
theorem lenT {p : Addr} {xs : List V} (st : Stt H0 S l H) (m : (p, Is (.tup xs)) ∈ l) (h : Q (.int (xs.length : Int)) H) : rLenQ K [.ref p] H Q := ⟨p, xs, rfl, .inr (st.sqT m), h⟩
def rIntQ : List V → Hp → VK → Prop := fun xs H Q => (∃ i, xs = [.int i] ∧ Q (.int i) H) ∨ ∃ k, xs = [.bl k] ∧ Q (.int (if k then 1 else 0)) H
theorem intI {z : Int} (h : Q (.int z) H) : rIntQ [.int z] H Q := .inl ⟨z, rfl, h⟩
def rAbsQ : List V → Hp → VK → Prop := fun xs H Q => ∃ i, xs = [.int i] ∧ Q (.int (if i < 0 then -i else i)) H
theorem absI {z : Int} (h : Q (.int (if z < 0 then -z else z)) H) : rAbsQ [.int z] H Q := ⟨z, rfl, h⟩
def Aug (i : Nat) (ti : TIp) (x y : V) (H1 : Hp) (Qz : V → Hp → Prop) : Prop := ti x y H1 Qz
theorem aug {ti : TIp} {x : V} (e : σ[i]? = some (some x)) (h : te σ H fun y H1 => ti x y H1 fun z H2 => D.nx (σ.set i (some z)) H2) : tAug i te ti D σ H := ⟨x, e, h⟩
theorem ipI {f : Int → Int → Int} {a b : Int} (h : Q (.int (f a b)) H) : L2.ipI f (.int a) (.int b) H Q := ⟨a, b, rfl, rfl, h⟩
/-- tests -/
def Bl (x : V) (H1 : Hp) (Q : Bool → Hp → Prop) : Prop := ∃ k, x = .bl k ∧ Q k H1
theorem test {Q : Bool → Hp → Prop} (h : te σ H fun x H1 => Bl x H1 Q) : tTest te σ H Q := h
theorem tbl {Q : Bool → Hp → Prop} (h : te σ H fun x H1 => Bl x H1 Q) : tB te σ H Q := h
theorem bl {Q : Bool → Hp → Prop} {k : Bool} (h : Q k H) : Bl (.bl k) H Q := ⟨k, rfl, h⟩
def Br (c : Bool) (A B : Prop) : Prop := if c = true then A else B
theorem ifS {c : TT} (h : c σ H fun b H1 => Br b (t D σ H1) (u D σ H1)) : tIfS c t u D σ H := h
theorem ifE {c : TT} (h : c σ H fun b H1 => Br b (ta σ H1 Q) (tb σ H1 Q)) : tIf c ta tb σ H Q := h
theorem andT {c d : TT} {Q : Bool → Hp → Prop} (h : c σ H fun b H1 => Br b (d σ H1 Q) (Q false H1)) : tAnd c d σ H Q := h
theorem orT {c d : TT} {Q : Bool → Hp → Prop} (h : c σ H fun b H1 => Br b (Q true H1) (d σ H1 Q)) : tOr c d σ H Q := h
theorem notT {c : TT} {Q : Bool → Hp → Prop} (h : c σ H fun b H1 => Q (!b) H1) : tNot c σ H Q := h
def BlV (x : V) (A B : Prop) : Prop := ∃ c, x = .bl c ∧ if c = true then A else B
theorem andV (h : ta σ H fun x H1 => BlV x (tb σ H1 Q) (Q (.bl false) H1)) : tAndV ta tb σ H Q := h
theorem orV (h : ta σ H fun x H1 => BlV x (Q (.bl true) H1) (tb σ H1 Q)) : tOrV ta tb σ H Q := h
theorem blV {c : Bool} {A B : Prop} (h : Br c A B) : BlV (.bl c) A B := ⟨c, rfl, h⟩
def NotV (x : V) (H1 : Hp) (Q : VK) : Prop := ∃ c, x = .bl c ∧ Q (.bl (!c)) H1
theorem notV (h : ta σ H fun x H1 => NotV x H1 Q) : tNotV ta σ H Q := h
theorem notVL {c : Bool} (h : Q (.bl (!c)) H) : NotV (.bl c) H Q := ⟨c, rfl, h⟩
theorem brT {A B : Prop} {c : Bool} (e : c = true) (h : A) : Br c A B := by rw [e]; exact h
theorem brF {A B : Prop} {c : Bool} (e : c = false) (h : B) : Br c A B := by rw [e]; exact h
theorem br {A B : Prop} {c : Bool} (h1 : c = true → A) (h2 : c = false → B) : Br c A B := by
  cases c with
  | true => exact h1 rfl
  | false => exact h2 rfl
theorem brD {A B p : Prop} [Decidable p] (h1 : p → A) (h2 : ¬ p → B) : Br (decide p) A B := br (fun e => h1 (of_decide_eq_true e)) fun e => h2 (of_decide_eq_false e)
theorem brTT {A B : Prop} (h : A) : Br true A B := h
theorem brFF {A B : Prop} (h : B) : Br false A B := h
theorem brN {A B : Prop} {c : Bool} (h : Br c B A) : Br (!c) A B := by
  cases c with
  | true => exact h
  | false => exact h
theorem brI {A B : Prop} {p : Prop} [Decidable p] (h1 : p) (h : A) : Br (decide p) A B := brT (decide_eq_true h1) h
theorem brJ {A B : Prop} {p : Prop} [Decidable p] (h1 : ¬ p) (h : B) : Br (decide p) A B := brF (decide_eq_false h1) h
/-- stores -/
theorem sub {ts : TSet} (h : te σ H fun v H1 => ta σ H1 fun o H2 => tb σ H2 fun i H3 => ts o i v H3 fun H4 => D.nx σ H4) : tAsg te (gSub ta tb ts) D σ H := h
theorem setL {p : Addr} {xs : List V} {z : Int} {Qs : Hp → Prop} (st : Stt H0 S l H) (m : (p, Is (.lst xs)) ∈ l) (e : ixN xs.length z = some j) (u : Put l p (Is (.lst (xs.set j v))) l') (ha : p ∈ S ∨ H0 p = none)
    (k : ∀ H1, Stt H0 S l' H1 → Qs H1) : rSetL (.ref p) (.int z) v H Qs := ⟨p, xs, z, j, rfl, rfl, st.get m, e, k _ (st.set u ha)⟩
/-- xs.append(e) -/
def BM (K : PySem.W.Frag) (T : String) (r : V → List V → Hp → VK → Prop) (t : TA) (σ : L2.St) (x : V) (H1 : Hp) (Q : VK) : Prop := tyV K T x H1 ∧ t σ H1 fun xs H2 => r x xs H2 Q
theorem bm {T : String} {r : V → List V → Hp → VK → Prop} {t : TA} (h : ta σ H fun x H1 => BM K T r t σ x H1 Q) : tBM K T r ta t σ H Q := h
theorem bmL {p : Addr} {xs : List V} {r : V → List V → Hp → VK → Prop} {t : TA} (st : Stt H0 S l H) (m : (p, Is (.lst xs)) ∈ l) (h : t σ H fun ys H2 => r (.ref p) ys H2 Q) : BM K "list" r t σ (.ref p) H Q := ⟨.inl ⟨rfl, _, st.sqL m⟩, h⟩
theorem app {p : Addr} {xs : List V} (st : Stt H0 S l H) (m : (p, Is (.lst xs)) ∈ l) (hz : xs.length < 100000) (u : Put l p (Is (.lst (xs ++ [y]))) l') (ha : p ∈ S ∨ H0 p = none) (k : ∀ H1, Stt H0 S l' H1 → Q .non H1) : rAppend (.ref p) [y] H Q :=
  ⟨p, xs, y, rfl, rfl, st.get m, Nat.lt_of_lt_of_le hz (by decide), k _ (st.set u ha)⟩
/-- a, b = t -/
def Gt (K : PySem.W.Frag) (n : Nat) (t : TGs) (v : V) (σ : L2.St) (H : Hp) (Q : L2.St → Hp → Prop) : Prop := gTup K n t v σ H Q
theorem asgT {n : Nat} {gs : TGs} (h : te σ H fun v H1 => gTup K n gs v σ H1 D.nx) : tAsg te (gTup K n gs) D σ H := h
theorem gtup {n : Nat} {gs : TGs} {p : Addr} {xs : List V} {Q : L2.St → Hp → Prop} (st : Stt H0 S l H) (m : (p, Is (.tup xs)) ∈ l) (e : xs.length = n) (h : gs xs σ H Q) : gTup K n gs (.ref p) σ H Q := ⟨p, xs, rfl, st.sqT m, e, h⟩
theorem gcons {g : TG} {gs : TGs} {xs : List V} {Q : L2.St → Hp → Prop} (h : g v σ H fun σ' H' => gs xs σ' H' Q) : gCons g gs (v :: xs) σ H Q := ⟨v, xs, rfl, h⟩
theorem gname {Q : L2.St → Hp → Prop} (h : Q (σ.set i (some v)) H) : gName i v σ H Q := h
theorem gnil {Q : L2.St → Hp → Prop} (h : Q σ H) : gNil [] σ H Q := ⟨rfl, h⟩
/-- slices of lists -/
theorem sl {r : V → Option Int → Option Int → Hp → VK → Prop} {tl th : TO} (h : te σ H fun x H1 => tl σ H1 fun lo H2 => th σ H2 fun hi H3 => r x lo hi H3 Q) : tSl r te tl th σ H Q := h
theorem noPart {Q : Option Int → Hp → Prop} (h : Q none H) : tNoPart σ H Q := h
def Prt (x : V) (H1 : Hp) (Q : Option Int → Hp → Prop) : Prop := ∃ i, x = .int i ∧ Q (some i) H1
theorem part {Q : Option Int → Hp → Prop} (h : te σ H fun x H1 => Prt x H1 Q) : tPart te σ H Q := h
theorem prt {z : Int} {Q : Option Int → Hp → Prop} (h : Q (some z) H) : Prt (.int z) H Q := ⟨z, rfl, h⟩
/-- a call: the promise is asked -/
theorem call {sp : Sp} {dvs : List V} {E : XK} {ta : TA} (h : ta σ H fun vs H1 => sp (vs ++ dvs) H1 Q E) : tCall sp dvs E ta σ H Q := h
/-- the draws' state: what is read is some int, some flag -/
theorem ixD2 {p c : Addr} (st : Stt H0 S l H) (m : (p, DrS c) ∈ l) (h : ∀ z, Q (.int z) H) : rIxL K (.ref p) (.int 2) H Q := by
  obtain ⟨o, h1, a, b, d, rfl⟩ := st.pick m
  exact ⟨p, _, 2, _, rfl, rfl, SqL.of h1, rfl, h b⟩
theorem ixD3 {p c : Addr} (st : Stt H0 S l H) (m : (p, DrS c) ∈ l) (h : ∀ z, Q (.bl z) H) : rIxL K (.ref p) (.int 3) H Q := by
  obtain ⟨o, h1, a, b, d, rfl⟩ := st.pick m
  exact ⟨p, _, 3, _, rfl, rfl, SqL.of h1, rfl, h d⟩
theorem setD2 {p c : Addr} {z : Int} {Qs : Hp → Prop} (st : Stt H0 S l H) (m : (p, DrS c) ∈ l) (u : Put l p (DrS c) l) (ha : p ∈ S ∨ H0 p = none) (k : ∀ H1, Stt H0 S l H1 → Qs H1) : rSetL (.ref p) (.int 2) (.int z) H Qs := by
  obtain ⟨o, h1, a, b, d, rfl⟩ := st.pick m
  refine ⟨p, _, 2, 2, rfl, rfl, h1, rfl, k _ ?_⟩
  exact { keep := fun x v e => by
            by_cases hx : x = p
            · subst hx
              rcases ha with q | q
              · exact .inr ⟨q, _, upd_same⟩
              · rw [e] at q; cases q
            · rw [upd_ne hx]; exact st.keep x v e
          nd := st.nd
          at_ := fun e me => by
            rcases u.new st.nd e me with q | ⟨q1, q2⟩
            · subst q
              exact ⟨_, upd_same, a, z, d, rfl⟩
            · obtain ⟨v, e1, e2⟩ := st.at_ e q1
              exact ⟨v, by rw [upd_ne q2]; exact e1, e2⟩ }
/-- loops -/
def For (J : It) (g : TG) (tb : TS) (D : Ends) (σ : L2.St) (H : Hp) : Prop := ∃ W : Nat → Nat → L2.St → Hp → Prop, (∃ m, W 0 m σ H) ∧ ∀ i m σ H, W i m σ H →
  (J.stop i H ∧ D.nx σ H) ∨ (J.go i H ∧ ∃ N : L2.St → Hp → Prop, (∀ σ' H', N σ' H' → ∃ m', m' < m ∧ W (i + 1) m' σ' H') ∧ ∀ x H', J.yld i H x H' → g x σ H' fun σ2 H2 => tb { D with nx := N, ct := N, bk := D.nx } σ2 H2)
theorem forS {wi : TI} {g : TG} {tb : TS} (h : wi σ H fun J H1 => For J g tb D σ H1) : tFor wi g tb D σ H := h
theorem loop {J : It} {n : Nat} {G : Hp → Prop} {Y : Nat → Hp → V → Hp → Prop} (w : Walk J n G Y) {g : TG} {tb : TS} (Pv : Nat → L2.St → Hp → Prop) (h0 : Pv 0 σ H) (hG : ∀ i σ H, i ≤ n → Pv i σ H → G H)
    (hs : ∀ i x σ H H', i < n → Pv i σ H → Y i H x H' → g x σ H' fun σ2 H2 => tb { D with nx := Pv (i + 1), ct := Pv (i + 1), bk := D.nx } σ2 H2) (hd : ∀ σ H, Pv n σ H → D.nx σ H) : For J g tb D σ H := for_it w Pv h0 hG hs hd
def WEnT (K : PySem.W.Frag) (vs : List V) (H1 : Hp) (R : It → Hp → Prop) : Prop := ∃ a xs, vs = [.ref a] ∧ SqT K H1 a xs ∧ R (IteT K a) H1
theorem wEnT {ta : TA} {R : It → Hp → Prop} (h : ta σ H fun vs H1 => WEnT K vs H1 R) : iEnumT K ta σ H R := h
theorem wEnTL {p : Addr} {xs : List V} {R : It → Hp → Prop} (st : Stt H0 S l H) (m : (p, Is (.tup xs)) ∈ l) (h : R (IteT K p) H) : WEnT K [.ref p] H R := ⟨p, xs, rfl, st.sqT m, h⟩
def WL (K : PySem.W.Frag) (x : V) (H1 : Hp) (R : It → Hp → Prop) : Prop := ∃ a, x = .ref a ∧ (∃ xs, SqL K H1 a xs) ∧ R (Itl K a) H1
theorem wL {R : It → Hp → Prop} (h : te σ H fun x H1 => WL K x H1 R) : iList K te σ H R := h
theorem wLL {p : Addr} {xs : List V} {R : It → Hp → Prop} (st : Stt H0 S l H) (m : (p, Is (.lst xs)) ∈ l) (h : R (Itl K p) H) : WL K (.ref p) H R := ⟨p, rfl, ⟨xs, st.sqL m⟩, h⟩
def WT (K : PySem.W.Frag) (x : V) (H1 : Hp) (R : It → Hp → Prop) : Prop := ∃ a, x = .ref a ∧ (∃ xs, SqT K H1 a xs) ∧ R (Itt K a) H1
theorem wT {R : It → Hp → Prop} (h : te σ H fun x H1 => WT K x H1 R) : iTup K te σ H R := h
theorem wTL {p : Addr} {xs : List V} {R : It → Hp → Prop} (st : Stt H0 S l H) (m : (p, Is (.tup xs)) ∈ l) (h : R (Itt K p) H) : WT K (.ref p) H R := ⟨p, rfl, ⟨xs, st.sqT m⟩, h⟩
def WR1 (vs : List V) (H1 : Hp) (R : It → Hp → Prop) : Prop := ∃ j : Int, vs = [.int j] ∧ -(2 ^ 62) ≤ j ∧ j < 2 ^ 62 ∧ R (Itr 0 j.toNat) H1
theorem wR1 {ta : TA} {R : It → Hp → Prop} (h : ta σ H fun vs H1 => WR1 vs H1 R) : iRng1 ta σ H R := h
theorem wR1L {z : Int} {R : It → Hp → Prop} (h1 : -(2 ^ 62) ≤ z) (h2 : z < 2 ^ 62) (h : R (Itr 0 z.toNat) H) : WR1 [.int z] H R := ⟨z, rfl, h1, h2, h⟩
def WR2 (vs : List V) (H1 : Hp) (R : It → Hp → Prop) : Prop := ∃ i j : Int, vs = [.int i, .int j] ∧ (-(2 ^ 62) ≤ i ∧ i < 2 ^ 62 ∧ -(2 ^ 62) ≤ j ∧ j < 2 ^ 62) ∧ R (Itr i (j - i).toNat) H1
theorem wR2 {ta : TA} {R : It → Hp → Prop} (h : ta σ H fun vs H1 => WR2 vs H1 R) : iRng2 ta σ H R := h
theorem wR2L {a z : Int} {R : It → Hp → Prop} (h1 : -(2 ^ 62) ≤ a ∧ a < 2 ^ 62 ∧ -(2 ^ 62) ≤ z ∧ z < 2 ^ 62) (h : R (Itr a (z - a).toNat) H) : WR2 [.int a, .int z] H R := ⟨a, z, rfl, h1, h⟩
/-- while, by a measure -/
theorem whileS {c : TT} {tb : TS} (W : Nat → L2.St → Hp → Prop) (m : Nat) (w0 : W m σ H)
    (hs : ∀ m σ H, W m σ H → c σ H fun b H1 => Br b (∃ N : L2.St → Hp → Prop, (∀ σ' H', N σ' H' → ∃ m', m' < m ∧ W m' σ' H') ∧ tb { D with nx := N, ct := N, bk := D.nx } σ H1) (D.nx σ H1)) : tWhile c tb D σ H := ⟨W, ⟨m, w0⟩, hs⟩
end Rd
theorem call_lenQ {X : Cx} : CallR X (.builtin "len") (Rd.rLenQ X.K) := call_len_seq
theorem call_intQ {X : Cx} : CallR X (.type "int") Rd.rIntQ := call_int1
theorem call_absQ {X : Cx} : CallR X (.builtin "abs") Rd.rAbsQ := call_abs
/-! ### the draws' state -/
theorem Stt.drawn {H0 H : Hp} {S : List Addr} {l : Led} {st c : Addr} {ns : List Int} (h : Stt H0 S l H) (m1 : (st, DrS c) ∈ l) (m2 : (c, Is (.lst (ns.map V.int))) ∈ l) : Stt H [st] [(st, DrS c), (c, Is (.lst (ns.map V.int)))] H where
  keep := .refl H
  nd := by
    have n : st ≠ c := h.ne m1 m2 fun o => by
      rintro ⟨nth, val, fl, rfl⟩ q
      have q2 : HO.lst [V.ref c, .int nth, .int val, .bl fl] = HO.lst (ns.map V.int) := q
      injection q2 with q2
      cases ns with
      | nil => cases q2
      | cons a r =>
        injection q2 with q1 q2
        cases q1
    simp [n]
  at_ := fun e m => by
    rcases List.mem_cons.mp m with z | z
    · subst z; exact h.at_ _ m1
    · rw [List.mem_singleton.mp z]; exact h.at_ _ m2
abbrev dled (st c : Addr) (ns : List Int) : Led := [(st, DrS c), (c, Is (.lst (ns.map V.int)))]
end Lt

set_option Elab.async false
set_option linter.all false
set_option maxRecDepth 100000
set_option maxHeartbeats 2000000
namespace Lt
open PySem PySem.Spec PyProof.Rows L2
/-! ### isinstance, instances' fields, numbers of any size -/
section
variable {K : PySem.W.Frag}
theorem kit_int_int : PySem.W.kitOne K (.type "int") (.type "int") = some true := kit_ty (by decide +kernel)
theorem kit_int_bool : PySem.W.kitOne K (.type "int") (.type "bool") = some false := kit_ty (by decide +kernel)
theorem kit_int_str : PySem.W.kitOne K (.type "int") (.type "str") = some false := kit_ty (by decide +kernel)
theorem kit_int_list : PySem.W.kitOne K (.type "int") (.type "list") = some false := kit_ty (by decide +kernel)
theorem kit_int_tuple : PySem.W.kitOne K (.type "int") (.type "tuple") = some false := kit_ty (by decide +kernel)
theorem kit_int_dict : PySem.W.kitOne K (.type "int") (.type "dict") = some false := kit_ty (by decide +kernel)
theorem kit_bool_int : PySem.W.kitOne K (.type "bool") (.type "int") = some true := kit_ty (by decide +kernel)
theorem kit_bool_bool : PySem.W.kitOne K (.type "bool") (.type "bool") = some true := kit_ty (by decide +kernel)
theorem kit_bool_str : PySem.W.kitOne K (.type "bool") (.type "str") = some false := kit_ty (by decide +kernel)
theorem kit_bool_list : PySem.W.kitOne K (.type "bool") (.type "list") = some false := kit_ty (by decide +kernel)
theorem kit_bool_tuple : PySem.W.kitOne K (.type "bool") (.type "tuple") = some false := kit_ty (by decide +kernel)
theorem kit_bool_dict : PySem.W.kitOne K (.type "bool") (.type "dict") = some false := kit_ty (by decide +kernel)
theorem kit_str_int : PySem.W.kitOne K (.type "str") (.type "int") = some false := kit_ty (by decide +kernel)
theorem kit_str_bool : PySem.W.kitOne K (.type "str") (.type "bool") = some false := kit_ty (by decide +kernel)
theorem kit_str_str : PySem.W.kitOne K (.type "str") (.type "str") = some true := kit_ty (by decide +kernel)
theorem kit_str_list : PySem.W.kitOne K (.type "str") (.type "list") = some false := kit_ty (by decide +kernel)
theorem kit_str_tuple : PySem.W.kitOne K (.type "str") (.type "tuple") = some false := kit_ty (by decide +kernel)
theorem kit_str_dict : PySem.W.kitOne K (.type "str") (.type "dict") = some false := kit_ty (by decide +kernel)
theorem kit_list_int : PySem.W.kitOne K (.type "list") (.type "int") = some false := kit_ty (by decide +kernel)
theorem kit_list_bool : PySem.W.kitOne K (.type "list") (.type "bool") = some false := kit_ty (by decide +kernel)
theorem kit_list_str : PySem.W.kitOne K (.type "list") (.type "str") = some false := kit_ty (by decide +kernel)
theorem kit_list_list : PySem.W.kitOne K (.type "list") (.type "list") = some true := kit_ty (by decide +kernel)
theorem kit_list_tuple : PySem.W.kitOne K (.type "list") (.type "tuple") = some false := kit_ty (by decide +kernel)
theorem kit_list_dict : PySem.W.kitOne K (.type "list") (.type "dict") = some false := kit_ty (by decide +kernel)
theorem kit_tuple_int : PySem.W.kitOne K (.type "tuple") (.type "int") = some false := kit_ty (by decide +kernel)
theorem kit_tuple_bool : PySem.W.kitOne K (.type "tuple") (.type "bool") = some false := kit_ty (by decide +kernel)
theorem kit_tuple_str : PySem.W.kitOne K (.type "tuple") (.type "str") = some false := kit_ty (by decide +kernel)
theorem kit_tuple_list : PySem.W.kitOne K (.type "tuple") (.type "list") = some false := kit_ty (by decide +kernel)
theorem kit_tuple_tuple : PySem.W.kitOne K (.type "tuple") (.type "tuple") = some true := kit_ty (by decide +kernel)
theorem kit_tuple_dict : PySem.W.kitOne K (.type "tuple") (.type "dict") = some false := kit_ty (by decide +kernel)
theorem kit_dict_int : PySem.W.kitOne K (.type "dict") (.type "int") = some false := kit_ty (by decide +kernel)
theorem kit_dict_bool : PySem.W.kitOne K (.type "dict") (.type "bool") = some false := kit_ty (by decide +kernel)
theorem kit_dict_str : PySem.W.kitOne K (.type "dict") (.type "str") = some false := kit_ty (by decide +kernel)
theorem kit_dict_list : PySem.W.kitOne K (.type "dict") (.type "list") = some false := kit_ty (by decide +kernel)
theorem kit_dict_tuple : PySem.W.kitOne K (.type "dict") (.type "tuple") = some false := kit_ty (by decide +kernel)
theorem kit_dict_dict : PySem.W.kitOne K (.type "dict") (.type "dict") = some true := kit_ty (by decide +kernel)
theorem kit_NoneType_int : PySem.W.kitOne K (.type "NoneType") (.type "int") = some false := kit_ty (by decide +kernel)
theorem kit_NoneType_bool : PySem.W.kitOne K (.type "NoneType") (.type "bool") = some false := kit_ty (by decide +kernel)
theorem kit_NoneType_str : PySem.W.kitOne K (.type "NoneType") (.type "str") = some false := kit_ty (by decide +kernel)
theorem kit_NoneType_list : PySem.W.kitOne K (.type "NoneType") (.type "list") = some false := kit_ty (by decide +kernel)
theorem kit_NoneType_tuple : PySem.W.kitOne K (.type "NoneType") (.type "tuple") = some false := kit_ty (by decide +kernel)
theorem kit_NoneType_dict : PySem.W.kitOne K (.type "NoneType") (.type "dict") = some false := kit_ty (by decide +kernel)
end
/-- what isinstance asks of an own class -/
structure InsT (K : PySem.W.Frag) (C : Addr) : Prop where
  cl : Cls K C
  ca : PySem.W.findIn K (.ref C) "__class__" = some (some (.builtin "object.__class__"))
  cn : PySem.W.specialIn K (.builtin "object.__class__") "__get__" = some (some (.builtin "getset_descriptor.__get__"))
  ct : PySem.W.takesIn K (.builtin "object.__class__") = some true
  cm : PySem.W.mroIn K C (.type "object") = some true
def insTB (K : PySem.W.Frag) (C : Addr) : Bool := decide (PySem.W.findIn K (.ref C) "__class__" = some (some (.builtin "object.__class__"))) && (decide (PySem.W.specialIn K (.builtin "object.__class__") "__get__" = some (some (.builtin "getset_descriptor.__get__"))) &&
  (decide (PySem.W.takesIn K (.builtin "object.__class__") = some true) && decide (PySem.W.mroIn K C (.type "object") = some true)))
theorem insT_of {K : PySem.W.Frag} {C : Addr} (c : Cls K C) (h : insTB K C = true) : InsT K C := by
  obtain ⟨h1, h⟩ := He.ba h
  obtain ⟨h2, h⟩ := He.ba h
  obtain ⟨h3, h4⟩ := He.ba h
  exact ⟨c, of_decide_eq_true h1, of_decide_eq_true h2, of_decide_eq_true h3, of_decide_eq_true h4⟩
theorem InsT.ty {K : PySem.W.Frag} {C a dx : Addr} {fs : List (Str × V)} {H : Hp} (T : InsT K C) (e : H a = some (.ins C dx fs)) : TyX K H (.ref a) (.ref C) := .base (.ins e T.cl T.ca T.cn T.ct T.cm)
namespace Rd
variable {K : PySem.W.Frag} {D : Ends} {σ : L2.St} {H H0 : Hp} {Q : VK} {S : List Addr} {l l' : Led} {te ta : TE} {x y v c : V} {t u : Value} {b : Bool}
theorem isi (ty : TyX K H x t) (cv : ClsV c u) (e : PySem.W.kitOne K t u = some b) (h : Q (.bl b) H) : rIsi K [x, c] H Q := ⟨x, c, t, u, b, rfl, cv, ty, e, h⟩
theorem isiT {p : Addr} {cs : List V} {us : List Value} (st : Stt H0 S l H) (m : (p, Is (.tup cs)) ∈ l) (ty : TyX K H x t) (cv : Paired ClsV cs us) (e : PySem.W.kitAny K t us = some b) (h : Q (.bl b) H) : rIsiT K [x, .ref p] H Q := ⟨x, p, cs, t, us, b, rfl, st.get m, cv, ty, e, h⟩
def Fld (K : PySem.W.Frag) (f : Str) (x : V) (H1 : Hp) (Q : VK) : Prop := ∃ a C dx fs v, x = .ref a ∧ H1 a = some (.ins C dx fs) ∧ Cls K C ∧ NoAttr K C f ∧ fs.lookup f = some v ∧ Q v H1
theorem fld {f : Str} (h : ta σ H fun x H1 => Fld K f x H1 Q) : tFld K ta f σ H Q := h
theorem fldI {f : Str} {p C dx : Addr} {fs : List (Str × V)} (st : Stt H0 S l H) (m : (p, Is (.ins C dx fs)) ∈ l) (c : Cls K C) (n : NoAttr K C f) (e : fs.lookup f = some v) (h : Q v H) : Fld K f (.ref p) H Q := ⟨p, C, dx, fs, v, rfl, st.get m, c, n, e, h⟩
def SFld (K : PySem.W.Frag) (f : Str) (x y : V) (H2 : Hp) (Qs : Hp → Prop) : Prop := ∃ a C dx fs, x = .ref a ∧ H2 a = some (.ins C dx fs) ∧ Cls K C ∧ NoAttr K C f ∧ fs.length < 1000 ∧ Qs (upd H2 a (.ins C dx (putF f y fs)))
theorem sfld {f : Str} {tv : TE} (h : tv σ H fun y H1 => ta σ H1 fun x H2 => SFld K f x y H2 fun H3 => D.nx σ H3) : sFld K ta tv f D σ H := h
theorem sfldI {f : Str} {p C dx : Addr} {fs : List (Str × V)} {Qs : Hp → Prop} (st : Stt H0 S l H) (m : (p, Is (.ins C dx fs)) ∈ l) (c : Cls K C) (n : NoAttr K C f) (hz : fs.length < 1000) (u : Put l p (Is (.ins C dx (putF f y fs))) l') (ha : p ∈ S ∨ H0 p = none)
    (k : ∀ H1, Stt H0 S l' H1 → Qs H1) : SFld K f (.ref p) y H Qs := ⟨p, C, dx, fs, rfl, st.get m, c, n, hz, k _ (st.set u ha)⟩
/-- C(..) -/
def Make (C : Addr) (sp : Sp) (dvs : List V) (E : XK) (vs : List V) (H1 : Hp) (Q : VK) : Prop := ∀ x dx, H1 x = none → H1 dx = none → dx ≠ x → sp (.ref x :: (vs ++ dvs)) (upd (upd H1 dx (.own x)) x (.ins C dx [])) (fun v H2 => v = .non ∧ Q (.ref x) H2) E
theorem make {C : Addr} {sp : Sp} {dvs : List V} {E : XK} {ta : TA} (h : ta σ H fun vs H1 => Make C sp dvs E vs H1 Q) : tMake C sp dvs E ta σ H Q := h
def MakeN (C : Addr) (n m : Nat) (sp : Sp) (gV : List V → List V → List V) (E : XK) (vs zs : List V) (H2 : Hp) (Q : VK) : Prop := vs.length = n ∧ zs.length = m ∧
  ∀ x dx, H2 x = none → H2 dx = none → dx ≠ x → sp (gV (.ref x :: vs) zs) (upd (upd H2 dx (.own x)) x (.ins C dx [])) (fun v H3 => v = .non ∧ Q (.ref x) H3) E
theorem gcd {a b : Int} (h : Q (.int (Int.gcd a b : Int)) H) : rGcd [.int a, .int b] H Q := ⟨a, b, rfl, h⟩
end Rd
/-- // by a divisor of either sign and many bits -/
def CDivZ (_ j : Int) : Prop := j ≠ 0 ∧ j.natAbs.log2 < 9000
theorem op_fdivZ {X : Cx} : OpR X (binaryOp .FloorDiv) (rI CDivZ fun i j => .int (i.fdiv j)) := opI fun i j _ _ _ _ _ hc q => floordiv_int hc.1 q (.inl (PyProof.noPylong_of_log2 hc.2))
theorem wide_divZ {i j : Int} {b : Nat} (h : j ≠ 0) (hb : j.natAbs < 2 ^ b) (h0 : 0 < b) (h9 : b ≤ 9000) : CDivZ i j := ⟨h, Nat.lt_of_lt_of_le (PySem.Flt.log2_lt_of h0 hb) h9⟩
theorem RelT.ref {a : Addr} : RelV (.ref a) (.ref a) := rfl
section
variable {X : Cx} {CX : CXT} {k : Nat} {f C : Addr} {fd : FuncData} {ps : List Str} {sp : Sp} {E : XK} {x : Str} {p pos : Pos} {e : Expr} {es : List Expr} {t : TA} {dvs : List V}
theorem pe_makeX (M : Mk X.K C f) (F : FnOk X.prog X.w X.K X.mg X.base CX k f fd ps sp) (hr : Room (k + 1) X.A) (hg : Gl X x) (hm : X.mg x = some (.ref C)) (hb : ∃ ds, Vals dvs ds ∧ Binds X.K fd ps ds) (hx : Passes CX X E) (ha : PA X (e :: es) t)
    (hdb : (x == ("__debug__" : Str)) = false := by decide) (he : starEach (e :: es) X.env = (false, eval e X.env) :: starEach es X.env := by rfl) (hpl : (backTo pos (starEach es X.env)).any (·.1) = false := by rfl) :
    PE X (.Call (.Name x p) (e :: es) [] pos) (tMake C sp dvs E t) := by
  obtain ⟨ds, h1, h2⟩ := hb
  exact pe_make M F hr hg hm h2 h1 hx ha hdb he hpl
theorem pe_callX (F : FnOk X.prog X.w X.K X.mg X.base CX k f fd ps sp) (hr : Room k X.A) (hg : Gl X x) (hm : X.mg x = some (.ref f)) (hk : PySem.W.keepIn X.K (.ref f) = true) (hb : ∃ ds, Vals dvs ds ∧ Binds X.K fd ps ds) (hx : Passes CX X E) (ha : PA X (e :: es) t)
    (hdb : (x == ("__debug__" : Str)) = false := by decide) (he : starEach (e :: es) X.env = (false, eval e X.env) :: starEach es X.env := by rfl) (hpl : (backTo pos (starEach es X.env)).any (·.1) = false := by rfl) :
    PE X (.Call (.Name x p) (e :: es) [] pos) (tCall sp dvs E t) := by
  obtain ⟨ds, h1, h2⟩ := hb
  exact pe_call F hr hg hm hk h2 h1 hx ha hdb he hpl
end
theorem putF_len (f : Str) (v : V) : ∀ fs : List (Str × V), (putF f v fs).length ≤ fs.length + 1
  | [] => Nat.le_refl _
  | q :: r => by
    unfold putF
    split
    · simp
    · have := putF_len f v r
      simp only [List.length_cons]
      omega
/-! ### numbers in lowest terms -/
def nO (a b : Int) : Int := (if b < 0 then -a else a) / (Int.gcd a b : Int)
def nU (a b : Int) : Int := (if b < 0 then -b else b) / (Int.gcd a b : Int)
theorem nO_neg {a b : Int} (h : b < 0) : a.fdiv (-(Int.gcd a b : Int)) = nO a b := by
  unfold nO
  rw [if_pos h, ← Int.neg_fdiv_neg, Int.neg_neg, Int.fdiv_eq_ediv_of_nonneg _ (by omega)]
theorem nU_neg {a b : Int} (h : b < 0) : b.fdiv (-(Int.gcd a b : Int)) = nU a b := by
  unfold nU
  rw [if_pos h, ← Int.neg_fdiv_neg, Int.neg_neg, Int.fdiv_eq_ediv_of_nonneg _ (by omega)]
theorem nO_pos {a b : Int} (h : ¬ b < 0) : a.fdiv (Int.gcd a b : Int) = nO a b := by
  unfold nO
  rw [if_neg h, Int.fdiv_eq_ediv_of_nonneg _ (by omega)]
theorem nU_pos {a b : Int} (h : ¬ b < 0) : b.fdiv (Int.gcd a b : Int) = nU a b := by
  unfold nU
  rw [if_neg h, Int.fdiv_eq_ediv_of_nonneg _ (by omega)]
end Lt

set_option Elab.async false
set_option linter.all false
set_option maxRecDepth 100000
set_option maxHeartbeats 2000000
namespace Lt
open PySem PySem.Spec PyProof.Rows L2
/-- a def that is never called -/
theorem fnok_false {P : Program} {w : World} {K : PySem.W.Frag} {mg : Str → Option Value} {base : Heap} {CX : CXT} {k : Nat} {f : Addr} {fd : FuncData} {ps : List Str} : FnOk P w K mg base CX k f fd ps (fun _ _ _ _ => False) :=
  ⟨fun _ _ _ _ h => h.elim, fun _ _ _ _ _ _ _ _ _ _ _ _ _ h => h.elim⟩
namespace Rd
variable {K : PySem.W.Frag} {D : Ends} {σ : L2.St} {H H0 : Hp} {Q : VK} {S : List Addr} {l l' : Led} {te ta : TE} {x y v c : V} {t u : Value} {b : Bool}
/-! ### comprehensions -/
def Lc (J : It) (g : TG) (tt : TT) (te : TE) (vs : List Nat) (σ : L2.St) (H1 : Hp) (Q : VK) : Prop := ∀ D, H1 D = none → ∃ W : Nat → Nat → Hp → Prop, (∃ m, W 0 m (upd H1 D (.lst []))) ∧ ∀ i m H, W i m H →
  (J.stop i H ∧ Q (.ref D) H) ∨ (J.go i H ∧ ∃ Nx : Hp → Prop, (∀ H', Nx H' → ∃ m', m' < m ∧ W (i + 1) m' H') ∧ ∀ x H', J.yld i H x H' → g x (wipe σ vs) H' fun σ2 H2 => wipe σ2 vs = wipe σ vs ∧ tt σ2 H2 fun b H3 =>
    if b = true then te σ2 H3 fun y H4 => ∃ acc, H4 D = some (.lst acc) ∧ acc.length < sizeLine ∧ Nx (upd H4 D (.lst (acc ++ [y]))) else Nx H3)
theorem lc {wi : TI} {g : TG} {tt : TT} {te : TE} {vs : List Nat} (h : wi σ H fun J H1 => Lc J g tt te vs σ H1 Q) : tLc wi g tt te vs σ H Q := h
/-- between two turns: the list at D holds acc; further objects ex -/
def PvG (H0 : Hp) (S : List Addr) (l : Led) (Good : Nat → List V → Led → Prop) (D : Addr) (i : Nat) (H : Hp) : Prop := ∃ acc ex, Good i acc ex ∧ acc.length ≤ i ∧ Stt H0 S ((D, Is (.lst acc)) :: (ex ++ l)) H
def LcP (H0 : Hp) (S : List Addr) (l : Led) (Good : Nat → List V → Led → Prop) (D : Addr) (i : Nat) (y : V) (H4 : Hp) : Prop := ∃ acc, H4 D = some (.lst acc) ∧ acc.length < sizeLine ∧ PvG H0 S l Good D (i + 1) (upd H4 D (.lst (acc ++ [y])))
theorem lcE {Good : Nat → List V → Led → Prop} {D : Addr} {i : Nat} {acc : List V} {ex : Led} (st : Stt H0 S ((D, Is (.lst acc)) :: (ex ++ l)) H) (hD : H0 D = none) (hi : i < 100000) (ha : acc.length ≤ i) (g : Good (i + 1) (acc ++ [y]) ex) : LcP H0 S l Good D i y H :=
  ⟨acc, st.get List.mem_cons_self, Nat.lt_of_le_of_lt ha (Nat.lt_trans hi (by decide)), acc ++ [y], ex, g, by simp; omega, st.set .head (.inr hD)⟩
theorem lcG {J : It} {n : Nat} {G : Hp → Prop} {Y : Nat → Hp → V → Hp → Prop} (w : Walk J n G Y) {g : TG} {tt : TT} {te : TE} {vs : List Nat} (st : Stt H0 S l H) (Good : Nat → List V → Led → Prop) (g0 : Good 0 [] [])
    (hG : ∀ H' D acc ex, H0 D = none → Stt H0 S ((D, Is (.lst acc)) :: (ex ++ l)) H' → G H')
    (hs : ∀ D, H0 D = none → ∀ i x H1 H2 acc ex, i < n → Good i acc ex → acc.length ≤ i → Stt H0 S ((D, Is (.lst acc)) :: (ex ++ l)) H1 → Y i H1 x H2 → g x (wipe σ vs) H2 fun σ2 H2 => wipe σ2 vs = wipe σ vs ∧ tt σ2 H2 fun b H3 =>
      Br b (te σ2 H3 fun y H4 => LcP H0 S l Good D i y H4) (PvG H0 S l Good D (i + 1) H3))
    (hd : ∀ D H1 acc ex, H0 D = none → Good n acc ex → Stt H0 S ((D, Is (.lst acc)) :: (ex ++ l)) H1 → Q (.ref D) H1) : Lc J g tt te vs σ H Q := by
  intro D hD
  have hD0 := st.none hD
  refine lc_it w (PvG H0 S l Good D) ⟨[], [], g0, Nat.le_refl _, st.new hD _⟩ (fun i H' _ p => ?_) ?_ ?_
  · obtain ⟨acc, ex, _, _, q⟩ := p
    exact hG H' D acc ex hD0 q
  · rintro i x H1 H2 hi ⟨acc, ex, gd, ha, q⟩ y
    exact hs D hD0 i x H1 H2 acc ex hi gd ha q y
  · rintro H1 ⟨acc, ex, gd, _, q⟩
    exact hd D H1 acc ex hD0 gd q
def WZ (K : PySem.W.Frag) (vs : List V) (H1 : Hp) (R : It → Hp → Prop) : Prop := ∃ a b xs ys, vs = [.ref a, .ref b] ∧ ((SqL K H1 a xs ∧ SqL K H1 b ys ∧ R (Itz K a b) H1) ∨ (SqT K H1 a xs ∧ SqT K H1 b ys ∧ R (RZ.ItzT K a b) H1))
theorem wZ {ta : TA} {R : It → Hp → Prop} (h : ta σ H fun vs H1 => WZ K vs H1 R) : RZ.iZipA K ta σ H R := h
def tYesH {Q : Bool → Hp → Prop} (h : Q true H) : tYes σ H Q := h
def rAllQ (K : PySem.W.Frag) : List V → Hp → VK → Prop := fun vs H Q => ∃ (a : Addr) (bs : List Bool), vs = [V.ref a] ∧ SqL K H a (bs.map V.bl) ∧ Q (.bl (bs.all id)) H
theorem allL {p : Addr} {bs : List Bool} (st : Stt H0 S l H) (m : (p, Is (.lst (bs.map V.bl))) ∈ l) (h : Q (.bl (bs.all id)) H) : rAll K [.ref p] H Q := ⟨p, bs, rfl, st.sqL m, h⟩
theorem anyL {p : Addr} {bs : List Bool} (st : Stt H0 S l H) (m : (p, Is (.lst (bs.map V.bl))) ∈ l) (h : Q (.bl (bs.any id)) H) : rAny K [.ref p] H Q := ⟨p, bs, rfl, st.sqL m, h⟩
/-! ### texts -/
def rStrQ : List V → Hp → VK → Prop := fun xs H Q => ∃ i, xs = [.int i] ∧ i.natAbs.log2 < 1920 ∧ Q (.str (toString i)) H
theorem strI {i : Int} (hz : i.natAbs.log2 < 1920) (h : Q (.str (toString i)) H) : rStrQ [.int i] H Q := ⟨i, rfl, hz, h⟩
def Js (ts : List TE) (acc : Str) (σ : L2.St) (H : Hp) (Q : VK) : Prop := tJs ts acc σ H fun out H1 => Q (.str out) H1
def JsL (ts : List TE) (acc : Str) (σ : L2.St) (x : V) (H1 : Hp) (Q : VK) : Prop := ∃ y : Str, x = .str y ∧ (acc ++ y).length ≤ sizeLine ∧ tJs ts (acc ++ y) σ H1 fun out H1 => Q (.str out) H1
theorem joined {ts : List TE} (h : Js ts Str.empty σ H Q) : (fun (σ : L2.St) (H : Hp) (Q : VK) => tJs ts Str.empty σ H fun out H1 => Q (.str out) H1) σ H Q := h
theorem jsNil {acc : Str} (h : Q (.str acc) H) : Js [] acc σ H Q := h
theorem jsCons {t : TE} {ts : List TE} {acc : Str} (h : t σ H fun x H1 => JsL ts acc σ x H1 Q) : Js (t :: ts) acc σ H Q := h
theorem jsL {ts : List TE} {acc y : Str} (hz : (acc ++ y).length ≤ sizeLine) (h : Js ts (acc ++ y) σ H Q) : JsL ts acc σ (.str y) H Q := ⟨y, rfl, hz, h⟩
def FmtL (x : V) (H1 : Hp) (Q : VK) : Prop := (∃ y : Str, x = .str y ∧ y.length ≤ sizeLine ∧ Q (.str y) H1) ∨ ∃ i : Int, x = .int i ∧ i.natAbs.log2 < 1920 ∧ Q (.str (toString i)) H1
theorem fmt (h : te σ H fun x H1 => FmtL x H1 Q) : tFmt te σ H Q := h
theorem fmtI {i : Int} (hz : i.natAbs.log2 < 1920) (h : Q (.str (toString i)) H) : FmtL (.int i) H Q := .inr ⟨i, rfl, hz, h⟩
theorem fmtS {y : Str} (hz : y.length ≤ sizeLine) (h : Q (.str y) H) : FmtL (.str y) H Q := .inl ⟨y, rfl, hz, h⟩
/-- == of two written data -/
theorem eqD {d e : PyData} (h1 : Dp K H x d) (h2 : Dp K H y e) (s1 : SeqAt.shaped d = true) (s2 : SeqAt.shaped e = true) (h : Q (.bl (PyData.eqv d e)) H) : rEqD K x y H Q := ⟨d, e, h1, h2, s1, s2, h⟩
end Rd
theorem call_strQ {X : Cx} : CallR X (.type "str") Rd.rStrQ := call_str_int
theorem walk_zipT {K : PySem.W.Frag} {a b : Addr} {xs ys : List V} {n : Nat} (hn : n = min xs.length ys.length) : Walk (RZ.ItzT K a b) n (fun H => SqT K H a xs ∧ SqT K H b ys) (YPair (fun i => xs[i]?) (fun i => ys[i]?)) := by
  subst hn
  refine ⟨fun i _ hi q => ?_, fun _ q => ⟨xs, ys, q.1, q.2, by omega⟩, fun i H v H' _ q y => ?_⟩
  · have h1 : i < xs.length := by omega
    have h2 : i < ys.length := by omega
    exact ⟨xs, ys, xs[i], ys[i], q.1, q.2, by simp [h1], by simp [h2]⟩
  · obtain ⟨T, x, z, h1, h2, h3, h4, h5⟩ := y
    exact ⟨T, x, z, h1, h2, h3, h4 xs q.1, h5 ys q.2⟩
theorem Kp.seqT {S : List Addr} {K : PySem.W.Frag} {H H' : Hp} {l : Addr} {xs : List V} (a : Kp S H H') (hl : l ∉ S) (h : SqT K H l xs) : SqT K H' l xs := by
  rcases h with (h | ⟨o, h⟩) | h
  · exact .inl (.inl (a.get hl h))
  · exact .inl (.inr ⟨o, a.get hl h⟩)
  · exact .inr h
mutual
theorem dp_kp {K : PySem.W.Frag} {H H' : Hp} (k : Kp [] H H') : ∀ {v : V} {d : PyData}, Dp K H v d → Dp K H' v d
  | _, _, .non => .non
  | _, _, .bl b => .bl b
  | _, _, .int i => .int i
  | _, _, .str x => .str x
  | _, _, .lst h r => .lst (k.seqL (by simp) h) (dpAll_kp k r)
  | _, _, .tup h r => .tup (k.seqT (by simp) h) (dpAll_kp k r)
theorem dpAll_kp {K : PySem.W.Frag} {H H' : Hp} (k : Kp [] H H') : ∀ {vs : List V} {ds : List PyData}, DpAll K H vs ds → DpAll K H' vs ds
  | _, _, .nil => .nil
  | _, _, .cons a r => .cons (dp_kp k a) (dpAll_kp k r)
end
theorem depth_mem {d : PyData} : ∀ {ds : List PyData} {i : Nat}, ds[i]? = some d → d.depth ≤ PyData.depthAll ds
  | e :: r, 0, h => by
    simp at h
    subst h
    exact Nat.le_max_left _ _
  | e :: r, i + 1, h => by
    simp at h
    exact Nat.le_trans (depth_mem h) (Nat.le_max_right _ _)
theorem weight_mem {d : PyData} : ∀ {ds : List PyData} {i : Nat}, ds[i]? = some d → d.weight ≤ PyData.weightAll ds
  | e :: r, 0, h => by
    simp at h
    subst h
    show e.weight ≤ e.weight + 1 + PyData.weightAll r
    omega
  | e :: r, i + 1, h => by
    simp at h
    have := weight_mem h
    show d.weight ≤ e.weight + 1 + PyData.weightAll r
    omega
theorem weight_len : ∀ (ds : List PyData), ds.length ≤ PyData.weightAll ds
  | [] => Nat.le_refl _
  | e :: r => by
    have := weight_len r
    show r.length + 1 ≤ e.weight + 1 + PyData.weightAll r
    omega
theorem DpAll.len {K : PySem.W.Frag} {H : Hp} : ∀ {vs : List V} {ds : List PyData}, DpAll K H vs ds → vs.length = ds.length
  | _, _, .nil => rfl
  | _, _, .cons _ r => congrArg Nat.succ (DpAll.len r)
theorem DpAll.at {K : PySem.W.Frag} {H : Hp} : ∀ {vs : List V} {ds : List PyData} {i : Nat} {v : V}, DpAll K H vs ds → vs[i]? = some v → ∃ d, ds[i]? = some d ∧ Dp K H v d
  | _, _, 0, _, .cons a r, h => by
    simp at h
    subst h
    exact ⟨_, rfl, a⟩
  | _, _, i + 1, _, .cons a r, h => by
    simp at h
    obtain ⟨d, h1, h2⟩ := DpAll.at r h
    exact ⟨d, by simpa using h1, h2⟩
section
variable {K : PySem.W.Frag}
theorem kitA_lt_int : PySem.W.kitAny K (.type "int") [.type "list", .type "tuple"] = some false := kitAny_cons kit_int_list (fun _ => kitAny_cons kit_int_tuple (fun _ => kitAny_nil) (fun h => by cases h)) (fun h => by cases h)
theorem kitA_bilt_int : PySem.W.kitAny K (.type "int") [.type "bool", .type "int", .type "list", .type "tuple"] = some true := by
  refine kitAny_cons kit_int_bool ?_ ?_ <;> intro h <;> first | (cases h; done) | rfl | (refine kitAny_cons kit_int_int ?_ ?_ <;> intro h <;> first | (cases h; done) | rfl | exact kitA_lt_int)
theorem kitA_lt_bool : PySem.W.kitAny K (.type "bool") [.type "list", .type "tuple"] = some false := kitAny_cons kit_bool_list (fun _ => kitAny_cons kit_bool_tuple (fun _ => kitAny_nil) (fun h => by cases h)) (fun h => by cases h)
theorem kitA_bilt_bool : PySem.W.kitAny K (.type "bool") [.type "bool", .type "int", .type "list", .type "tuple"] = some true := by
  refine kitAny_cons kit_bool_bool ?_ ?_ <;> intro h <;> first | (cases h; done) | rfl | (refine kitAny_cons kit_bool_int ?_ ?_ <;> intro h <;> first | (cases h; done) | rfl | exact kitA_lt_bool)
theorem kitA_lt_str : PySem.W.kitAny K (.type "str") [.type "list", .type "tuple"] = some false := kitAny_cons kit_str_list (fun _ => kitAny_cons kit_str_tuple (fun _ => kitAny_nil) (fun h => by cases h)) (fun h => by cases h)
theorem kitA_bilt_str : PySem.W.kitAny K (.type "str") [.type "bool", .type "int", .type "list", .type "tuple"] = some false := by
  refine kitAny_cons kit_str_bool ?_ ?_ <;> intro h <;> first | (cases h; done) | rfl | (refine kitAny_cons kit_str_int ?_ ?_ <;> intro h <;> first | (cases h; done) | rfl | exact kitA_lt_str)
theorem kitA_lt_list : PySem.W.kitAny K (.type "list") [.type "list", .type "tuple"] = some true := kitAny_cons kit_list_list (fun h => by cases h) (fun _ => rfl)
theorem kitA_bilt_list : PySem.W.kitAny K (.type "list") [.type "bool", .type "int", .type "list", .type "tuple"] = some true := by
  refine kitAny_cons kit_list_bool ?_ ?_ <;> intro h <;> first | (cases h; done) | rfl | (refine kitAny_cons kit_list_int ?_ ?_ <;> intro h <;> first | (cases h; done) | rfl | exact kitA_lt_list)
theorem kitA_lt_tuple : PySem.W.kitAny K (.type "tuple") [.type "list", .type "tuple"] = some true := kitAny_cons kit_tuple_list (fun _ => kitAny_cons kit_tuple_tuple (fun h => by cases h) (fun _ => rfl)) (fun h => by cases h)
theorem kitA_bilt_tuple : PySem.W.kitAny K (.type "tuple") [.type "bool", .type "int", .type "list", .type "tuple"] = some true := by
  refine kitAny_cons kit_tuple_bool ?_ ?_ <;> intro h <;> first | (cases h; done) | rfl | (refine kitAny_cons kit_tuple_int ?_ ?_ <;> intro h <;> first | (cases h; done) | rfl | exact kitA_lt_tuple)
theorem kitA_lt_dict : PySem.W.kitAny K (.type "dict") [.type "list", .type "tuple"] = some false := kitAny_cons kit_dict_list (fun _ => kitAny_cons kit_dict_tuple (fun _ => kitAny_nil) (fun h => by cases h)) (fun h => by cases h)
theorem kitA_bilt_dict : PySem.W.kitAny K (.type "dict") [.type "bool", .type "int", .type "list", .type "tuple"] = some false := by
  refine kitAny_cons kit_dict_bool ?_ ?_ <;> intro h <;> first | (cases h; done) | rfl | (refine kitAny_cons kit_dict_int ?_ ?_ <;> intro h <;> first | (cases h; done) | rfl | exact kitA_lt_dict)
theorem kitA_lt_NoneType : PySem.W.kitAny K (.type "NoneType") [.type "list", .type "tuple"] = some false := kitAny_cons kit_NoneType_list (fun _ => kitAny_cons kit_NoneType_tuple (fun _ => kitAny_nil) (fun h => by cases h)) (fun h => by cases h)
theorem kitA_bilt_NoneType : PySem.W.kitAny K (.type "NoneType") [.type "bool", .type "int", .type "list", .type "tuple"] = some false := by
  refine kitAny_cons kit_NoneType_bool ?_ ?_ <;> intro h <;> first | (cases h; done) | rfl | (refine kitAny_cons kit_NoneType_int ?_ ?_ <;> intro h <;> first | (cases h; done) | rfl | exact kitA_lt_NoneType)
end
theorem sqL_ty {K : PySem.W.Frag} {H : Hp} {a : Addr} {xs : List V} (h : SqL K H a xs) : TyX K H (.ref a) (.type "list") := by
  rcases h with (h | ⟨o, h⟩) | ⟨o, its, n, h1, h2, _⟩
  · exact .base (.lst h)
  · exact .base (.frz h)
  · exact .kList h1 h2
theorem sqT_ty {K : PySem.W.Frag} {H : Hp} {a : Addr} {xs : List V} (h : SqT K H a xs) : TyX K H (.ref a) (.type "tuple") := by
  rcases h with (h | ⟨o, h⟩) | ⟨o, its, n, h1, h2, _⟩
  · exact .base (.tup h)
  · exact .fTuple h
  · exact .kTuple h1 h2
theorem Stt.upL {K : PySem.W.Frag} {H0 H : Hp} {S : List Addr} {l : Led} {a : Addr} {xs : List V} (s : Stt H0 S l H) (h : SqL K H0 a xs) (n : a ∉ S := by exact List.not_mem_nil) : SqL K H a xs := s.keep.seqL n h
theorem Stt.upT {K : PySem.W.Frag} {H0 H : Hp} {S : List Addr} {l : Led} {a : Addr} {xs : List V} (s : Stt H0 S l H) (h : SqT K H0 a xs) (n : a ∉ S := by exact List.not_mem_nil) : SqT K H a xs := s.keep.seqT n h
namespace Rd
variable {K : PySem.W.Frag} {H H0 : Hp} {Q : VK} {l : Led}
theorem wp {a c : L2.St} {b d : List Nat} {G : Prop} (e : wipe a b = wipe c d) (h : G) : wipe a b = wipe c d ∧ G := ⟨e, h⟩
theorem makeK {σ : L2.St} {C : Addr} {n m : Nat} {sp : Sp} {gV : List V → List V → List V} {E : XK} {t tk : TA} (h : t σ H fun vs H1 => tk σ H1 fun zs H2 => MakeN C n m sp gV E vs zs H2 Q) : tMakeK C n m sp gV E t tk σ H Q := h
def DNew (H : Hp) (Q : VK) : Prop := ∀ d, H d = none → Q (.ref d) (upd H d (.dK []))
theorem dnew {σ : L2.St} (h : DNew H Q) : tDNewK σ H Q := h
theorem dnewL {S : List Addr} (st : Stt H0 S l H) (k : ∀ p H1, H0 p = none → Stt H0 S ((p, Is (.dK [])) :: l) H1 → Q (.ref p) H1) : DNew H Q := fun p hp => k p _ (st.none hp) (st.new hp _)
def MethL (C : Addr) (m : Str) (sp : Sp) (dvs : List V) (E : XK) (t : TA) (σ : L2.St) (x : V) (H1 : Hp) (Q : VK) : Prop := ∃ a dx fs, x = .ref a ∧ H1 a = some (.ins C dx fs) ∧ fs.lookup m = none ∧
  t σ H1 fun vs H2 => sp (x :: (vs ++ dvs)) H2 Q E
theorem meth {σ : L2.St} {C : Addr} {m : Str} {sp : Sp} {dvs : List V} {E : XK} {ta : TE} {t : TA} (h : ta σ H fun x H1 => MethL C m sp dvs E t σ x H1 Q) : tMeth C m sp dvs E ta t σ H Q := h
def Cat (x y : V) (H1 : Hp) (Q : VK) : Prop := rCat x y H1 Q
theorem catL {S : List Addr} {p q : Addr} {xs zs : List V} (st : Stt H0 S l H) (m1 : (p, Is (.lst xs)) ∈ l) (m2 : (q, Is (.lst zs)) ∈ l) (hz : xs.length + zs.length ≤ 100000) (k : ∀ r H1, H0 r = none → Stt H0 S ((r, Is (.lst (xs ++ zs))) :: l) H1 → Q (.ref r) H1) : rCat (.ref p) (.ref q) H Q :=
  ⟨p, q, xs, zs, rfl, rfl, st.get m1, st.get m2, Nat.le_trans hz (by decide), fun r hr => k r _ (st.none hr) (st.new hr _)⟩
theorem isB {a b : Bool} (h : Q (.bl (decide (a = b))) H) : rIsB (.bl a) (.bl b) H Q := ⟨a, b, rfl, rfl, h⟩
theorem zL {a b : Addr} {xs ys : List V} {R : It → Hp → Prop} (h1 : SqL K H a xs) (h2 : SqL K H b ys) (h : R (Itz K a b) H) : WZ K [.ref a, .ref b] H R := ⟨a, b, xs, ys, rfl, .inl ⟨h1, h2, h⟩⟩
theorem zT {a b : Addr} {xs ys : List V} {R : It → Hp → Prop} (h1 : SqT K H a xs) (h2 : SqT K H b ys) (h : R (RZ.ItzT K a b) H) : WZ K [.ref a, .ref b] H R := ⟨a, b, xs, ys, rfl, .inr ⟨h1, h2, h⟩⟩
theorem lenBL {S : List Addr} {p : Addr} {xs : List V} (st : Stt H0 S l H) (s : SqL K H0 p xs) (n : p ∉ S) (h : Q (.int (xs.length : Int)) H) : rLenQ K [.ref p] H Q := ⟨p, xs, rfl, .inl (st.upL s n), h⟩
theorem lenBT {S : List Addr} {p : Addr} {xs : List V} (st : Stt H0 S l H) (s : SqT K H0 p xs) (n : p ∉ S) (h : Q (.int (xs.length : Int)) H) : rLenQ K [.ref p] H Q := ⟨p, xs, rfl, .inr (st.upT s n), h⟩
theorem ixBL {S : List Addr} {p : Addr} {xs : List V} {z : Int} {v : V} (st : Stt H0 S l H) (s : SqL K H0 p xs) (n : p ∉ S) (e : atI xs z = some v) (h : Q v H) : rIxL K (.ref p) (.int z) H Q := ⟨p, xs, z, v, rfl, rfl, st.upL s n, e, h⟩
theorem ixBT {S : List Addr} {p : Addr} {xs : List V} {z : Int} {v : V} (st : Stt H0 S l H) (s : SqT K H0 p xs) (n : p ∉ S) (e : atI xs z = some v) (h : Q v H) : rIxT K (.ref p) (.int z) H Q := ⟨p, xs, z, v, rfl, rfl, st.upT s n, e, h⟩
end Rd
section
variable {X : Cx} {CX : CXT} {k : Nat} {f C : Addr} {fd : FuncData} {ps ks : List Str} {sp : Sp} {E : XK} {x : Str} {p pos : Pos} {kws : List Keyword} {tk : TA} {gV : List V → List V → List V}
theorem pe_makeK0X (M : Mk X.K C f) (F : FnOk X.prog X.w X.K X.mg X.base CX k f fd ps sp) (hr : Room (k + 1) X.A) (hg : Gl X x) (hm : X.mg x = some (.ref C)) (hb : ∃ g, KBn X.K fd ps 1 ks g gV) (hx : Passes CX X E)
    (hkw : PK X kws tk) (hall : (backToKw pos (keywordEach kws X.env)).all (·.1.isSome) = true := by rfl) (hks : (backToKw pos (keywordEach kws X.env)).filterMap (·.1) = ks := by rfl)
    (hdb : (x == ("__debug__" : Str)) = false := by decide) (hpl : ((backTo pos (starEach [] X.env)).any (·.1) || (backToKw pos (keywordEach kws X.env)).any (·.1.isNone)) = false := by rfl) :
    PE X (.Call (.Name x p) [] kws pos) (tMakeK C 0 ks.length sp gV E tNil tk) := by
  obtain ⟨g, hb⟩ := hb
  exact pe_makeK0 M F hr hg hm hb hx hkw hall hks hdb hpl
end
end Lt

set_option Elab.async false
set_option linter.all false
set_option maxRecDepth 100000
set_option maxHeartbeats 2000000
namespace Lt
open PySem PySem.Spec PyProof.Rows L2
/-! ### figures -/
def dig (c : Nat) : Bool := decide (48 ≤ c) && decide (c ≤ 57)
/-- digits without a leading nought -/
def figs (a : List Nat) : Bool := a.all dig && (decide (a = [48]) || (decide (a ≠ []) && decide (a.head? ≠ some 48)))
theorem dig_iff {c : Nat} : dig c = true ↔ 48 ≤ c ∧ c ≤ 57 := by
  unfold dig
  simp
theorem all_dig {a : List Nat} : a.all dig = true ↔ NumText.AllDigits a := by
  rw [List.all_eq_true]
  exact ⟨fun h c hc => dig_iff.mp (h c hc), fun h c hc => dig_iff.mpr (h c hc)⟩
theorem dig_mem (c : Nat) : decide (c ∈ [48, 49, 50, 51, 52, 53, 54, 55, 56, 57]) = dig c := by
  rw [Bool.eq_iff_iff, decide_eq_true_iff, dig_iff]
  simp only [List.mem_cons, List.not_mem_nil, or_false]
  omega
theorem numL_head : ∀ (n : Nat), TL.numL n = [48] ∨ (TL.numL n).head? ≠ some 48 := by
  intro n
  induction n using Nat.strongRecOn with
  | _ n ih =>
    by_cases h : n < 10
    · rw [TL.numL_lt h]
      by_cases h0 : n = 0
      · subst h0
        exact .inl rfl
      · refine .inr ?_
        simp
        omega
    · rw [TL.numL_step (by omega)]
      refine .inr ?_
      have hm : 0 < n / 10 := by omega
      rcases ih (n / 10) (by omega) with e | e
      · exfalso
        have z : TL.numL (n / 10) = TL.numL 0 := by rw [e]; rfl
        have := TL.numL_inj z
        omega
      · cases q : TL.numL (n / 10) with
        | nil => exact absurd q (TL.numL_ne _)
        | cons c r =>
          rw [q] at e
          simpa using e
theorem figs_num (n : Nat) : figs (TL.numL n) = true := by
  unfold figs
  rw [Bool.and_eq_true, Bool.or_eq_true, Bool.and_eq_true, decide_eq_true_iff, decide_eq_true_iff, decide_eq_true_iff]
  refine ⟨all_dig.mpr (TL.numL_digits n), ?_⟩
  rcases numL_head n with h | h
  · exact .inl h
  · exact .inr ⟨TL.numL_ne n, h⟩
theorem char_back {c : Nat} (h : 48 ≤ c ∧ c ≤ 57) : (Char.ofNat c).toNat = c := by
  have : c = 48 ∨ c = 49 ∨ c = 50 ∨ c = 51 ∨ c = 52 ∨ c = 53 ∨ c = 54 ∨ c = 55 ∨ c = 56 ∨ c = 57 := by omega
  rcases this with e | e | e | e | e | e | e | e | e | e <;> subst e <;> rfl
theorem num_figs {a : List Nat} (h : figs a = true) : TL.numL (NumText.digitsVal a) = a := by
  unfold figs at h
  rw [Bool.and_eq_true, Bool.or_eq_true, Bool.and_eq_true, decide_eq_true_iff, decide_eq_true_iff, decide_eq_true_iff] at h
  obtain ⟨h1, h2⟩ := h
  have hd := all_dig.mp h1
  rcases h2 with e | ⟨e1, e2⟩
  · subst e
    rfl
  · cases a with
    | nil => exact absurd rfl e1
    | cons c r =>
      have hc := hd c List.mem_cons_self
      have e3 : c ≠ 48 := by simpa using e2
      have z := NumText.toDigits_digitsVal r.length (c :: r) (by simp) hd (.inr ⟨c, r, rfl, by omega⟩)
      unfold TL.numL
      rw [z, List.map_map]
      conv => rhs; rw [← List.map_id (c :: r)]
      exact List.map_congr_left fun x hx => char_back (hd x hx)
theorem figs_iff {a : List Nat} : figs a = true ↔ ∃ n, a = TL.numL n := ⟨fun h => ⟨_, (num_figs h).symm⟩, fun ⟨n, h⟩ => by rw [h]; exact figs_num n⟩
theorem figs_zero {a : List Nat} (h : figs a = true) : NumText.digitsVal a = 0 ↔ a = [48] := by
  refine ⟨fun e => ?_, fun e => by subst e; rfl⟩
  have z := num_figs h
  rw [e] at z
  exact z.symm
theorem figs_one {a : List Nat} (h : figs a = true) : NumText.digitsVal a = 1 ↔ a = [49] := by
  refine ⟨fun e => ?_, fun e => by subst e; rfl⟩
  have z := num_figs h
  rw [e] at z
  exact z.symm
theorem figs_free {a : List Nat} (h : figs a = true) {s : Nat} (hs : s < 48 ∨ 57 < s) : s ∉ a := by
  obtain ⟨n, e⟩ := figs_iff.mp h
  rw [e]
  exact TL.numL_free hs
theorem figs_ne {a : List Nat} (h : figs a = true) : a ≠ [] := by
  obtain ⟨n, e⟩ := figs_iff.mp h
  rw [e]
  exact TL.numL_ne n
/-! ### a text by its parts: a sign, a head, what stands behind the first slash -/
def sgn (neg : Bool) : List Nat := if neg then [45] else []
def tlU : Option (List Nat) → List Nat
  | none => []
  | some u => 47 :: u
structure Cut (t : List Nat) (neg : Bool) (h : List Nat) (u : Option (List Nat)) : Prop where
  eq : t = sgn neg ++ (h ++ tlU u)
  free : 47 ∉ h
  pos : neg = false → h.head? ≠ some 45
theorem first47 : ∀ b : List Nat, ∃ h u, b = h ++ tlU u ∧ 47 ∉ h
  | [] => ⟨[], none, rfl, by simp⟩
  | c :: r => by
    by_cases hc : c = 47
    · subst hc
      exact ⟨[], some r, rfl, by simp⟩
    · obtain ⟨h, u, e, f⟩ := first47 r
      exact ⟨c :: h, u, by rw [e]; rfl, by simp [f, Ne.symm hc]⟩
theorem cut_of (t : List Nat) : ∃ neg h u, Cut t neg h u := by
  by_cases c : t.head? = some 45
  · cases t with
    | nil => cases c
    | cons d r =>
      cases c
      obtain ⟨h, u, e, f⟩ := first47 r
      exact ⟨true, h, u, by rw [e]; rfl, f, fun z => by cases z⟩
  · obtain ⟨h, u, e, f⟩ := first47 t
    refine ⟨false, h, u, e, f, fun _ z => c ?_⟩
    rw [e]
    cases h with
    | nil => cases z
    | cons a r => exact z
def okU : Option (List Nat) → List Nat → Bool
  | none, _ => true
  | some u, h => figs u && decide (u ≠ [48]) && decide (u ≠ [49]) && decide (Nat.gcd (NumText.digitsVal h) (NumText.digitsVal u) = 1)
/-- the texts of numbers -/
def okT (neg : Bool) (h : List Nat) (u : Option (List Nat)) : Bool := figs h && !(neg && decide (h = [48])) && okU u h
def ovr (neg : Bool) (h : List Nat) : Int := if neg then -((NumText.digitsVal h : Nat) : Int) else ((NumText.digitsVal h : Nat) : Int)
def und : Option (List Nat) → Int
  | none => 1
  | some u => ((NumText.digitsVal u : Nat) : Int)
/-- the text of p/q -/
def intL (p : Int) : List Nat := if p < 0 then 45 :: TL.numL p.natAbs else TL.numL p.natAbs
def txt (p q : Int) : List Nat := intL p ++ if q = 1 then [] else 47 :: TL.numL q.natAbs
theorem int_S' (p : Int) : Str.ofString (toString p) = SX.S (intL p) := by
  unfold intL
  cases p with
  | ofNat n =>
    rw [if_neg (by simp)]
    exact SX.num_S n
  | negSucc n =>
    rw [if_pos (by omega)]
    have e : toString (Int.negSucc n) = "-" ++ toString (n + 1) := rfl
    rw [e]
    refine TL.ext_tl ?_
    rw [TL.tl_ofString]
    have e2 := TL.tl_num (n + 1)
    rw [TL.tl_ofString] at e2
    show _ = 45 :: TL.numL (n + 1)
    rw [← e2, String.toList_append, List.map_append]
    rfl
theorem okT_txt {neg : Bool} {h : List Nat} {u : Option (List Nat)} (k : okT neg h u = true) : txt (ovr neg h) (und u) = sgn neg ++ (h ++ tlU u) := by
  unfold okT at k
  rw [Bool.and_eq_true, Bool.and_eq_true] at k
  obtain ⟨⟨k1, k2⟩, k3⟩ := k
  have e1 := num_figs k1
  have a1 : intL (ovr neg h) = sgn neg ++ h := by
    unfold intL ovr sgn
    cases neg with
    | false =>
      simp only [Bool.false_eq_true, if_false]
      rw [if_neg (by omega), Int.natAbs_natCast, e1]
      rfl
    | true =>
      have hz : h ≠ [48] := by simpa using k2
      have hz2 : NumText.digitsVal h ≠ 0 := fun e => hz ((figs_zero k1).mp e)
      simp only [if_true]
      rw [if_pos (by omega), Int.natAbs_neg, Int.natAbs_natCast, e1]
      rfl
  unfold txt
  rw [a1, List.append_assoc]
  congr 1
  congr 1
  cases u with
  | none => rfl
  | some u =>
    unfold okU at k3
    rw [Bool.and_eq_true, Bool.and_eq_true, Bool.and_eq_true, decide_eq_true_iff, decide_eq_true_iff, decide_eq_true_iff] at k3
    obtain ⟨⟨⟨u1, u2⟩, u3⟩, u4⟩ := k3
    have n1 : NumText.digitsVal u ≠ 1 := fun e => u3 ((figs_one u1).mp e)
    show (if ((NumText.digitsVal u : Nat) : Int) = 1 then [] else 47 :: TL.numL ((NumText.digitsVal u : Nat) : Int).natAbs) = 47 :: u
    rw [if_neg (by omega), Int.natAbs_natCast, num_figs u1]
/-- the text of a fraction in lowest terms is such a text -/
theorem txt_ok {p q : Int} (hq : 0 < q) (hg : Int.gcd p q = 1) : ∃ neg h u, Cut (txt p q) neg h u ∧ okT neg h u = true ∧ ovr neg h = p ∧ und u = q := by
  refine ⟨decide (p < 0), TL.numL p.natAbs, if q = 1 then none else some (TL.numL q.natAbs), ⟨?_, TL.numL_free (.inl (by decide)), fun _ e => ?_⟩, ?_, ?_, ?_⟩
  · unfold txt intL sgn tlU
    by_cases h1 : p < 0
    · have hd : decide (p < 0) = true := decide_eq_true h1
      rw [if_pos h1, hd]
      by_cases h2 : q = 1
      · simp only [h2, if_true]
        rfl
      · simp only [h2, if_false]
        rfl
    · have hd : decide (p < 0) = false := decide_eq_false h1
      rw [if_neg h1, hd]
      by_cases h2 : q = 1
      · simp only [h2, if_true]
        rfl
      · simp only [h2, if_false]
        rfl
  · have z : (45 : Nat) ∈ TL.numL p.natAbs := List.mem_of_mem_head? e
    exact TL.numL_free (.inl (by decide)) z
  · unfold okT
    rw [Bool.and_eq_true, Bool.and_eq_true]
    refine ⟨⟨figs_num _, ?_⟩, ?_⟩
    · rw [Bool.not_eq_true', Bool.and_eq_false_iff]
      by_cases h1 : p < 0
      · refine .inr (decide_eq_false fun e => ?_)
        have z : TL.numL p.natAbs = TL.numL 0 := e
        have := TL.numL_inj z
        omega
      · exact .inl (decide_eq_false h1)
    · by_cases h2 : q = 1
      · rw [if_pos h2]
        rfl
      · rw [if_neg h2]
        show (figs (TL.numL q.natAbs) && decide (TL.numL q.natAbs ≠ [48]) && decide (TL.numL q.natAbs ≠ [49]) && decide (Nat.gcd (NumText.digitsVal (TL.numL p.natAbs)) (NumText.digitsVal (TL.numL q.natAbs)) = 1)) = true
        rw [Bool.and_eq_true, Bool.and_eq_true, Bool.and_eq_true, decide_eq_true_iff, decide_eq_true_iff, decide_eq_true_iff, TL.numL_val, TL.numL_val]
        refine ⟨⟨⟨figs_num _, fun e => ?_⟩, fun e => ?_⟩, hg⟩
        · have z : TL.numL q.natAbs = TL.numL 0 := e
          have := TL.numL_inj z
          omega
        · have z : TL.numL q.natAbs = TL.numL 1 := e
          have := TL.numL_inj z
          omega
  · unfold ovr
    rw [TL.numL_val]
    by_cases h1 : p < 0
    · rw [if_pos (decide_eq_true h1)]
      omega
    · rw [if_neg (by simpa using h1)]
      omega
  · by_cases h2 : q = 1
    · rw [if_pos h2]
      exact h2.symm
    · rw [if_neg h2]
      show ((NumText.digitsVal (TL.numL q.natAbs) : Nat) : Int) = q
      rw [TL.numL_val]
      omega
end Lt

set_option Elab.async false
set_option linter.all false
set_option maxRecDepth 100000
set_option maxHeartbeats 2000000
namespace Lt
open PySem PySem.Spec PyProof.Rows L2
/-! ### static methods -/
/-- where the function of a static method stands -/
def sAd (K : PySem.W.Frag) (p : Str × Option Str) : Addr := match PySem.W.recIn K (He.fAd K p) "staticmethod" with
  | some (.ref f :: _) => f
  | _ => 0
def sW (K : PySem.W.Frag) (p : Str × Option Str) : He.FnW := match K.lookup (sAd K p) with
  | some ⟨_, _, .func fd, _⟩ => some (fd.name, fd.qualname, fd.params, fd.body, fd.scope, fd.globals, fd.closure, fd.builtins)
  | _ => none
def sOk (K : PySem.W.Frag) (d : He.DefD) : Bool := PySem.W.keepIn K (.ref (sAd K d.at_)) && (match K.lookup (sAd K d.at_) with
  | some ⟨_, _, .func fd, _⟩ => PySem.W.codeIn K fd.code d.qual && (He.dflB K fd.defaults (d.dvs K) && He.kwdB K fd.kwdefaults (d.kws K))
  | _ => false)
theorem sFunD {K : PySem.W.Frag} {d : He.DefD} (e : sW K d.at_ = d.val) (c : sOk K d = true) : ∃ fd, FunD K d.name d.qual d.params d.body d.scope (d.dvs K) (d.kws K) (sAd K d.at_) fd := by
  obtain ⟨kp, c2⟩ := He.ba c
  unfold sW at e
  cases q : K.lookup (sAd K d.at_) with
  | none =>
    rw [q] at c2
    cases c2
  | some o =>
    obtain ⟨oc, od, dt, osl⟩ := o
    rw [q] at c2 e
    cases dt with
    | func fd =>
      obtain ⟨n1, n2, n3, n4, n5, n6, n7, n8, n9, n10, n11, n12, n13, n14, n15⟩ := fd
      have e2 : (some (n1, n2, n3, n4, n5, n6, n7, n15) : He.FnW) = some (d.name, d.qual, d.params, .stmts d.body, d.scope, mainGlobals, [], builtinsNs) := e
      simp only [Option.some.injEq, Prod.mk.injEq] at e2
      obtain ⟨h1, h2, h3, h4, h5, h6, h7, h8⟩ := e2
      subst h1 h2 h3 h4 h5 h6 h7 h8
      have c3 : (PySem.W.codeIn K n13 d.qual && (He.dflB K n8 (d.dvs K) && He.kwdB K n9 (d.kws K))) = true := c2
      obtain ⟨k1, k2⟩ := He.ba c3
      obtain ⟨k3, k4⟩ := He.ba k2
      exact ⟨_, ⟨oc, od, n8, n9, n10, n11, n12, n13, n14, osl, rfl, q, k1, He.dflB_ok k3, He.kwdB_ok k4⟩, kp⟩
    | _ => cases c2
/-- C.m is a static method, its function at g -/
structure SMet (K : PySem.W.Frag) (C g : Addr) (m : Str) : Prop where
  rd : PySem.W.readsIn K C (.type "type") = true
  ga : PySem.W.specialIn K (.ref C) "__getattribute__" = some (some (.builtin "type.__getattribute__"))
  at_ : ∃ p rest, PySem.W.findCls K (.ref C) (.type "type") m = some (.get (.builtin "staticmethod.__get__") (.ref p) .none (.ref C)) ∧ PySem.W.recIn K p "staticmethod" = some (.ref g :: rest)
def sMetB (K : PySem.W.Frag) (x m : Str) : Bool := PySem.W.readsIn K (He.ga K x) (.type "type") && (decide (PySem.W.specialIn K (.ref (He.ga K x)) "__getattribute__" = some (some (.builtin "type.__getattribute__"))) &&
  ((match PySem.W.findCls K (.ref (He.ga K x)) (.type "type") m with
      | some (.get g a o t) => decide (g = .builtin "staticmethod.__get__") && (decide (a = .ref (He.fAd K (x, some m))) && (decide (o = .none) && decide (t = .ref (He.ga K x))))
      | _ => false) &&
    (match PySem.W.recIn K (He.fAd K (x, some m)) "staticmethod" with
      | some (.ref _ :: _) => true
      | _ => false)))
theorem sMet_of {K : PySem.W.Frag} {x m : Str} (h : sMetB K x m = true) : SMet K (He.ga K x) (sAd K (x, some m)) m := by
  obtain ⟨h1, h⟩ := He.ba h
  obtain ⟨h2, h⟩ := He.ba h
  obtain ⟨h3, h4⟩ := He.ba h
  have h3' : PySem.W.findCls K (.ref (He.ga K x)) (.type "type") m = some (.get (.builtin "staticmethod.__get__") (.ref (He.fAd K (x, some m))) .none (.ref (He.ga K x))) := by
    cases q : PySem.W.findCls K (.ref (He.ga K x)) (.type "type") m with
    | none => rw [q] at h3; cases h3
    | some z =>
      rw [q] at h3
      cases z with
      | val v => cases h3
      | get g a o t =>
        obtain ⟨e1, h3⟩ := He.ba h3
        obtain ⟨e2, h3⟩ := He.ba h3
        obtain ⟨e3, e4⟩ := He.ba h3
        rw [of_decide_eq_true e1, of_decide_eq_true e2, of_decide_eq_true e3, of_decide_eq_true e4]
  refine ⟨h1, of_decide_eq_true h2, He.fAd K (x, some m), ?_⟩
  unfold sAd
  cases q : PySem.W.recIn K (He.fAd K (x, some m)) "staticmethod" with
  | none => rw [q] at h4; cases h4
  | some l =>
    rw [q] at h4
    cases l with
    | nil => cases h4
    | cons v r =>
      cases v with
      | ref f => exact ⟨r, h3', rfl⟩
      | _ => cases h4
section
variable {X : Cx} {CX : CXT} {k : Nat} {C g : Addr} {fd : FuncData} {ps : List Str} {sp : Sp} {E : L2.St → XK} {o e : Expr} {es : List Expr} {m : Str} {pos apos : Pos} {ta : TE} {t : TA} {pl : Sem Bool}
/-- C.m(e, ..), m a static method of the class at C -/
def tSMeth (C : Addr) (sp : Sp) (E : L2.St → XK) (ta : TE) (t : TA) : TE := fun σ H Q => ta σ H fun x H1 => x = .ref C ∧ t σ H1 fun vs H2 => sp vs H2 Q (E σ)
theorem pe_smeth (he : PE X o ta) (r : SMet X.K C g m) (F : FnOk X.prog X.w X.K X.mg X.base CX k g fd ps sp) (hk : PySem.W.keepIn X.K (.ref g) = true) (hr : Room k X.A) (hb : Binds X.K fd ps []) (hx : ∀ σ, PassesAt CX X σ (E σ)) (ha : PA X (e :: es) t)
    (hst : starEach (e :: es) X.env = (false, eval e X.env) :: starEach es X.env := by rfl) (hpl : (backTo pos (starEach es X.env)).any (·.1) = false := by rfl)
    (ht : eval (.Call (.Attribute o m apos) (e :: es) [] pos) X.env = (do
      let ov ← eval o X.env
      standAt apos.atName
      let (f, first) ← holding [ov] (getMethod ov m pl)
      callWith pos f first (backTo pos (starEach (e :: es) X.env)) (backToKw pos (keywordEach [] X.env))) := by rfl) :
    PE X (.Call (.Attribute o m apos) (e :: es) [] pos) (tSMeth C sp E ta t) := by
  refine ⟨fun pins s σ H Q I h => ?_⟩
  refine PySem.W.methodCall_KW (pl := pl) (thn (he.run pins s σ H _ I h) fun u s1 ⟨x, H1, I1, rx, ex, q⟩ => ?_) ht
  subst ex
  obtain rfl : u = Value.ref C := rx
  obtain ⟨p, rest, e1, e2⟩ := r.at_
  refine PySem.W.method_cls I1.kIn r.ga (PySem.W.cls_bind I1.kIn r.rd e1 ?_)
  refine wpAny_call (PySem.W.sm_get (s := { s1 with toks := s1.toks + 1 }) I1.kIn e2 (PySem.W.handed_on rfl ?_))
  have I2 := I1.tok (s1.toks + 1)
  refine PySem.W.callWith_K (h₀ := X.base) I1.ok.mod.kin hk (thn (ha.run pos _ _ σ H1 _ I2 q) fun us s3 ⟨vs, H2, I3, rv, q2⟩ => ⟨I3.kIn, ?_⟩) hst hpl
  exact run_fnS F hr hb (hx σ) I3 rv q2
end
theorem Rd.smeth {C : Addr} {sp : Sp} {E : L2.St → XK} {ta : TE} {t : TA} {σ : L2.St} {H : Hp} {Q : VK} (h : ta σ H fun x H1 => x = .ref C ∧ t σ H1 fun vs H2 => sp vs H2 Q (E σ)) : tSMeth C sp E ta t σ H Q := h
/-- a written text by its signs; a text of the module -/
theorem pe_strL {X : Cx} {z : Str} {l : List Nat} {k : Nat} {p : Pos} (h : z = SX.S l) : PE X (.Constant (.str z) k p) (tC (.str (SX.S l))) := by
  rw [← h]
  exact pe_str
theorem pe_globS {X : Cx} {x z : Str} {p : Pos} (hg : Gl X x) (hm : ∃ t, X.mg x = some (.str z t)) (hdb : (x == ("__debug__" : Str)) = false := by decide) : PE X (.Name x p) (tC (.str z)) := by
  obtain ⟨t, hm⟩ := hm
  exact pe_glob hg hm ⟨_, rfl⟩ hdb
/-! ### a Hook with static methods -/
def obsS (fa : List He.Fa) (fs : List (PySem.W.Frag → Bool)) (fn sn : List He.DefD) (K : PySem.W.Frag) : He.AlD :=
  ((fa.all fun f => f.ok K) && ((fs.all fun f => f K) && ((fn.all fun d => d.ok K) && sn.all fun d => sOk K d)), (fn.map fun d => He.fnW K d.at_) ++ sn.map fun d => sW K d.at_)
def SaysS (fa : List He.Fa) (fs : List (PySem.W.Frag → Bool)) (fn sn : List He.DefD) (K : PySem.W.Frag) : Prop := obsS fa fs fn sn K = He.valD (fn ++ sn)
def obsSG (n : Nat) (fa : List He.Fa) (fs : List (PySem.W.Frag → Bool)) (fn sn : List He.DefD) (g : Addr → Option Obj) : He.AlD := obsS fa fs fn sn (He.frG g (cStatics :: He.asD g n))
def hookS (n : Nat) (fa : List He.Fa) (fs : List (PySem.W.Frag → Bool)) (fn sn : List He.DefD) : PySem.W.Hook where
  α := He.AlD
  obs := fun s => obsSG n fa fs fn sn s.heap.get?
  val := fun _ => He.valD (fn ++ sn)
  says := fun _ h => ∃ K : PySem.W.Frag, K.In h ∧ SaysS fa fs fn sn K
  of := fun _ _ e => ⟨_, He.frG_in, e⟩
  keeps := fun _ _ _ ⟨K, hK, c⟩ k => ⟨K, PySem.W.Frag.In.keeps hK k, c⟩
theorem obsSG_eq {n : Nat} {fa : List He.Fa} {fs : List (PySem.W.Frag → Bool)} {fn sn : List He.DefD} {g : Addr → Option Obj} {s : Shared} (h : ∀ a, g a = s.heap.get? a) : obsSG n fa fs fn sn g = (hookS n fa fs fn sn).obs s := by
  have e : g = s.heap.get? := funext h
  rw [e] <;> rfl
section
variable {fa : List He.Fa} {fs : List (PySem.W.Frag → Bool)} {fn sn : List He.DefD} {K : PySem.W.Frag}
theorem SaysS.fst (c : SaysS fa fs fn sn K) : ((fa.all fun f => f.ok K) && ((fs.all fun f => f K) && ((fn.all fun d => d.ok K) && sn.all fun d => sOk K d))) = true := congrArg (fun z : He.AlD => z.1) c
theorem SaysS.snd (c : SaysS fa fs fn sn K) : (fn.map fun d => He.fnW K d.at_) ++ (sn.map fun d => sW K d.at_) = (fn ++ sn).map He.DefD.val := congrArg (fun z : He.AlD => z.2) c
theorem SaysS.fact (c : SaysS fa fs fn sn K) (i : Nat) {f : He.Fa} (h : fa[i]? = some f) : f.ok K = true :=
  List.all_eq_true.mp (He.ba c.fst).1 f (List.mem_of_getElem? h)
theorem SaysS.chk (c : SaysS fa fs fn sn K) (i : Nat) {f : PySem.W.Frag → Bool} (h : fs[i]? = some f) : f K = true :=
  List.all_eq_true.mp (He.ba (He.ba c.fst).2).1 f (List.mem_of_getElem? h)
theorem SaysS.def_ (c : SaysS fa fs fn sn K) (i : Nat) {d : He.DefD} (h : fn[i]? = some d) : ∃ fd, FunD K d.name d.qual d.params d.body d.scope (d.dvs K) (d.kws K) (He.fAd K d.at_) fd := by
  have c2 := (He.ba (He.ba (He.ba c.fst).2).2).1
  have e := c.snd
  rw [List.map_append] at e
  have e1 : fn.map (fun d => He.fnW K d.at_) = fn.map He.DefD.val := (List.append_inj e (by simp)).1
  have e2 : (fn.map fun d => He.fnW K d.at_)[i]? = (fn.map He.DefD.val)[i]? := by rw [e1]
  rw [List.getElem?_map, List.getElem?_map, h] at e2
  exact He.DefD.funD (Option.some.inj e2) (List.all_eq_true.mp c2 d (List.mem_of_getElem? h))
theorem SaysS.stat (c : SaysS fa fs fn sn K) (i : Nat) {d : He.DefD} (h : sn[i]? = some d) : ∃ fd, FunD K d.name d.qual d.params d.body d.scope (d.dvs K) (d.kws K) (sAd K d.at_) fd := by
  have c2 := (He.ba (He.ba (He.ba c.fst).2).2).2
  have e := c.snd
  rw [List.map_append] at e
  have e1 : sn.map (fun d => sW K d.at_) = sn.map He.DefD.val := (List.append_inj e (by simp)).2
  have e2 : (sn.map fun d => sW K d.at_)[i]? = (sn.map He.DefD.val)[i]? := by rw [e1]
  rw [List.getElem?_map, List.getElem?_map, h] at e2
  exact sFunD (Option.some.inj e2) (List.all_eq_true.mp c2 d (List.mem_of_getElem? h))
end
/-! ### own exception classes with an own __init__ -/
/-- what a class must have: made, its field read -/
structure ExK (K : PySem.W.Frag) (C fI : Addr) : Prop where
  oex : OexC K C
  xf : XfC K C
  iC : PySem.W.findIn K (.ref C) "__init__" = some (some (.ref fI))
  tI : PySem.W.typeIn K (.ref fI) = some (.type "function")
  te : PySem.W.exmOne K (.ref C) (.ref C) = some true
def exClsB (K : PySem.W.Frag) (C : Addr) : Bool := match K.lookup C with
  | some ⟨.type "type", _, .cls cd, sl⟩ => (match cd.mro, sl.toList with
    | .ref C' :: bm, [_, _, _, _, some (.builtin n), _] => C' == C && (n == "ValueError.__new__" && (!cd.hasDel && (cd.hasDict && PySem.HandSPX.refsVE bm)))
    | _, _ => false)
  | _ => false
theorem exCls_of {K : PySem.W.Frag} {C : Addr} (q : exClsB K C = true) : ∃ nm q N bs bm sn sub ab col dd k0 k1 k2 k3 k5, K.lookup C = some (excClassObj nm q C N bs bm true sn sub ab col dd k0 k1 k2 k3 k5 "ValueError.__new__") ∧ PySem.HandSPX.refsVE bm = true := by
  unfold exClsB at q
  split at q
  · rename_i dd cd sl ho
    split at q
    · rename_i C' bm k0 k1 k2 k3 n k5 hm hs
      simp only [Bool.and_eq_true, beq_iff_eq, Bool.not_eq_true'] at q
      obtain ⟨rfl, rfl, hdel, hdi, ht⟩ := q
      obtain ⟨nm, bs, mro, ns, qn, hd, sn, sub, ab, col, del⟩ := cd
      dsimp only at hm hdel hdi
      subst hm hdel hdi
      have hsl : sl = #[k0, k1, k2, k3, some (.builtin "ValueError.__new__"), k5] := by
        obtain ⟨l⟩ := sl
        simp only at hs
        rw [hs]
      subst hsl
      exact ⟨nm, qn, ns, bs, bm, sn, sub, ab, col, dd, k0, k1, k2, k3, k5, ho, ht⟩
    · cases q
  · cases q
/-- decided of the name x of the module -/
def exKB (K : PySem.W.Frag) (x : Str) : Bool := exClsB K (He.ga K x) && (decide (PySem.W.findIn K (.ref (He.ga K x)) "__setattr__" = some (some (.builtin "object.__setattr__"))) && (decide (PySem.W.subIn K (.ref (He.ga K x)) (.type "BaseException") = some true) &&
  (decide (PySem.W.typeIn K (.ref (He.ga K x)) = some (.type "type")) && (PySem.W.keepIn K (.ref (He.ga K x)) && (xfB K (He.ga K x) && (decide (PySem.W.findIn K (.ref (He.ga K x)) "__init__" = some (some (.ref (He.ma K (He.ga K x) "__init__")))) &&
    (decide (PySem.W.typeIn K (.ref (He.ma K (He.ga K x) "__init__")) = some (.type "function")) && decide (PySem.W.exmOne K (.ref (He.ga K x)) (.ref (He.ga K x)) = some true))))))))
theorem exK_of {K : PySem.W.Frag} {x : Str} (h : exKB K x = true) : ExK K (He.ga K x) (He.ma K (He.ga K x) "__init__") := by
  obtain ⟨h1, h⟩ := He.ba h
  obtain ⟨h2, h⟩ := He.ba h
  obtain ⟨h3, h⟩ := He.ba h
  obtain ⟨h4, h⟩ := He.ba h
  obtain ⟨h5, h⟩ := He.ba h
  obtain ⟨h6, h⟩ := He.ba h
  obtain ⟨h7, h⟩ := He.ba h
  obtain ⟨h8, h9⟩ := He.ba h
  exact ⟨⟨exCls_of h1, of_decide_eq_true h2, of_decide_eq_true h3, of_decide_eq_true h4, h5⟩, xfB_ok h6, of_decide_eq_true h7, of_decide_eq_true h8, of_decide_eq_true h9⟩
/-- the promise of an __init__ that says self.f = x, no more -/
def spExI (C : Addr) (f : Str) : Sp := fun vs H Q _ => ∃ (a : Addr) (v : V), vs = [.ref a, v] ∧ H a = some (exo a C none) ∧ ∀ d, H d = none → d ≠ a → Q .non (upd (upd H d (exd d [(f, v)])) a (exo a C (some d)))
/-- C(v), raised: what is left of it is its dict -/
theorem mkO_ask {C : Addr} {f : Str} {σ : L2.St} {H : Hp} {Q : XK} {ta : TA} (h : ta σ H fun vs H1 => ∃ v, vs = [v] ∧ ∀ d, H1 d = none → Q (.ref C) (some d) (upd H1 d (.xd [(f, v)]))) (mono : ∀ {K1 K2 : List V → Hp → Prop}, (∀ vs H', K1 vs H' → K2 vs H') → ta σ H K1 → ta σ H K2) :
    tMkO C (spExI C f) [] ta σ H Q := by
  refine mono (fun vs H1 hh => ?_) h
  obtain ⟨v, rfl, k⟩ := hh
  refine ⟨by simp, fun a ha => ⟨a, v, rfl, upd_same, fun d hd hda => ⟨rfl, d, [(f, v)], upd_same, ?_, ?_, ?_⟩⟩⟩
  · rw [upd_ne hda, upd_same]
  · rw [upd_ne hda] at hd
    exact hd
  · rw [upd_ne hda] at hd
    have e : upd (del (upd (upd (upd H1 a (exo a C none)) d (exd d [(f, v)])) a (exo a C (some d))) a) d (.xd [(f, v)]) = upd H1 d (.xd [(f, v)]) := by
      funext b
      by_cases h1 : b = d
      · subst h1
        rw [upd_same, upd_same]
      · rw [upd_ne h1, upd_ne h1]
        by_cases h2 : b = a
        · subst h2
          rw [del_same, ha]
        · rw [del_ne h2, upd_ne h2, upd_ne h1, upd_ne h2]
    rw [e]
    exact k d hd
end Lt

set_option Elab.async false
set_option linter.all false
set_option maxRecDepth 100000
set_option maxHeartbeats 2000000
namespace Lt
open PySem PySem.Spec PyProof.Rows L2
/-! ### readings of texts by their signs -/
abbrev TS (a : List Nat) : V := .str (SX.S a)
section
variable {X : Cx}
def rRmp : V → List V → Hp → VK → Prop := fun x xs H Q => ∃ a b, x = .str a ∧ xs = [.str b] ∧ a.length ≤ sizeLine ∧ Q (.str (Txt.removeprefix a b)) H
theorem mt_removeprefixQ : MtR X "str.removeprefix" rRmp := mt_removeprefix
def rPart : V → List V → Hp → VK → Prop := fun x xs H Q => ∃ a b, x = .str a ∧ xs = [.str b] ∧ (b.length == 0) = false ∧ a.length ≤ sizeLine ∧ ∀ p, H p = none → Q (.ref p) (upd H p (.tup [.str (Txt.partition a b).1, .str (Txt.partition a b).2.1, .str (Txt.partition a b).2.2]))
theorem mt_partitionQ : MtR X "str.partition" rPart := mt_partition
def rStw : V → List V → Hp → VK → Prop := fun x xs H Q => ∃ a b, x = .str a ∧ xs = [.str b] ∧ Q (.bl (Txt.startswith a b)) H
theorem mt_startswithQ : MtR X "str.startswith" rStw := mt_startswith
def rSplit : V → List V → Hp → VK → Prop := fun x xs H Q => ∃ a b, x = .str a ∧ xs = [.str b] ∧ (b.length == 0) = false ∧ a.length + 2 ≤ sizeLine ∧ rNewStrs (Txt.split a b) H Q
theorem mt_splitQ : MtR X "str.split" rSplit := mt_split
def rSIdx : V → List V → Hp → VK → Prop := fun x xs H Q => ∃ a b i rest, x = .str a ∧ xs = [.str b] ∧ Builtin.Str.occurrences a b 0 a.length 1 = i :: rest ∧ Q (.int (i : Nat)) H
theorem mt_sindexQ : MtR X "str.index" rSIdx := mt_sindex
def rInSg : R2 := fun x y H Q => ∃ (c : Nat) (z : Str), x = .str ⟨#[c]⟩ ∧ y = .str z ∧ Q (.bl (decide (c ∈ z.cps.toList))) H
theorem op_inSg : OpR X (compareOp .In) rInSg := op_in_sign
def rAddS : R2 := fun x y H Q => ∃ i j, x = .str i ∧ y = .str j ∧ i.length + j.length ≤ sizeLine ∧ Q (.str (i ++ j)) H
theorem op_addS : OpR X (binaryOp .Add) rAddS := op_add_str
def rIntS : List V → Hp → VK → Prop := fun xs H Q => ∃ a n, xs = [.str a] ∧ PySem.intText? a = some n ∧ a.length ≤ 640 ∧ Q (.int n) H
theorem call_intS : CallR X (.type "int") rIntS := call_int_str
/-- list(a text) -/
def rListS : List V → Hp → VK → Prop := fun xs H Q => ∃ z : Str, xs = [.str z] ∧ z.length ≤ sizeLine ∧ ∀ l, H l = none → Q (.ref l) (upd H l (.lst (z.cps.toList.map fun c => V.str ⟨#[c]⟩)))
theorem call_listS (hc : X.calm = true) : CallR X (.type "list") rListS := by
  intro pins s σ H xs us Q I r h
  obtain ⟨z, rfl, hz, q⟩ := h
  obtain ⟨u, rfl, rx⟩ := vals1 r
  obtain ⟨t, rfl⟩ := (show ∃ t, u = Value.str z t from rx)
  refine call_list_str (I.ok.hd hc) z t (hn := hz) fun h' tk acc' c' hk hS' hacc => ?_
  have hv : Vals (z.cps.toList.map fun c => V.str ⟨#[c]⟩) acc'.toList := by
    have hl : (z.cps.toList.map fun c => V.str ⟨#[c]⟩).length = acc'.toList.length := by simp [hacc.1]
    have gen : ∀ (xs : List V) (us : List Value), xs.length = us.length → (∀ (j : Nat) (x : V) (u : Value), xs[j]? = some x → us[j]? = some u → RelV x u) → Vals xs us := by
      intro xs
      induction xs with
      | nil =>
        intro us e _
        cases us with
        | nil => exact .nil
        | cons _ _ => cases e
      | cons x xs ih =>
        intro us e k
        cases us with
        | nil => cases e
        | cons u us => exact .cons (k 0 x u rfl rfl) (ih us (Nat.succ.inj e) fun j a b h1 h2 => k (j + 1) a b h1 h2)
    refine gen _ _ hl fun j x v h1 h2 => ?_
    obtain ⟨c, u, hc, rfl⟩ := hacc.2 j v (by simpa using h2)
    rw [List.getElem?_map] at h1
    rw [show z.cps.toList[j]? = some c by simpa using hc] at h1
    cases h1
    exact ⟨u, rfl⟩
  exact ⟨.ref s.heap.objs.size, _, I.laid (t' := tk) hk (Nat.le_refl _) (show ObjOk X.prog X.w _ h' _ (.lst _) from ⟨by simpa [Str.length] using hz, acc'.toList, c', hv, by simpa using hS'⟩), rfl, q _ (I.hok.fresh (Nat.le_refl _))⟩
end
/-! ### .. as functions on lists of signs -/
theorem lit (s : String) : Str.ofString s = SX.S (s.toList.map Char.toNat) := by
  refine TL.ext_tl ?_
  rw [TL.tl_ofString]
theorem S_one (c : Nat) : (⟨#[c]⟩ : Str) = SX.S [c] := rfl
theorem S_le {a : List Nat} {n : Nat} (h : a.length ≤ n) (hn : n ≤ 100000 := by decide) : (SX.S a).length ≤ sizeLine := by
  rw [SX.S_len]
  exact Nat.le_trans (Nat.le_trans h hn) (by decide)
theorem startswith1 (a : List Nat) (c : Nat) : Txt.startswith (SX.S a) (SX.S [c]) = decide (a.head? = some c) := by
  unfold Txt.startswith
  rw [StrLaws.subAt_eq]
  show (decide (0 + (SX.S [c]).length ≤ (SX.S a).length) && ((a.drop 0).take 1 == [c])) = _
  rw [SX.S_len, SX.S_len]
  cases a with
  | nil => rfl
  | cons d r =>
    simp
    rw [Bool.eq_iff_iff]
    simp
theorem removeprefix1 (a : List Nat) (c : Nat) : Txt.removeprefix (SX.S a) (SX.S [c]) = SX.S (if a.head? = some c then a.tail else a) := by
  unfold Txt.removeprefix
  rw [StrLaws.subAt_eq]
  show Txt.affix (SX.S a) (if ((a.drop 0).take 1 == [c]) = true then some ((SX.S [c]).length, (SX.S a).length) else none) = _
  rw [SX.S_len, SX.S_len]
  cases a with
  | nil => rfl
  | cons d r =>
    by_cases e : d = c
    · subst e
      simp only [List.drop_zero, List.take_succ_cons, List.take_zero, beq_self_eq_true, if_true, List.head?_cons, List.tail_cons]
      show (if ((d :: r).length - [d].length == (SX.S (d :: r)).length) = true then SX.S (d :: r) else Builtin.Str.strSub (SX.S (d :: r)) 1 (r.length + 1)) = SX.S r
      rw [SX.S_len]
      have h1 : ¬ ((d :: r).length - [d].length == (d :: r).length) = true := by simp
      rw [if_neg h1]
      unfold Builtin.Str.strSub
      refine TL.ext_tl ?_
      simp [TL.tl, SX.S]
    · have h1 : ¬ ((((d :: r).drop 0).take 1 == [c]) = true) := by simp [e]
      rw [if_neg h1, if_neg (by simp [e])]
      rfl
theorem cutNone {h : List Nat} (f : 47 ∉ h) : Txt.partition (SX.S h) (SX.S [47]) = (SX.S h, SX.S [], SX.S []) := SX.partition_none (by simp) (SX.par_head_none f)
theorem cutSome {h : List Nat} (u : List Nat) (f : 47 ∉ h) : Txt.partition (SX.S (h ++ 47 :: u)) (SX.S [47]) = (SX.S h, SX.S [47], SX.S u) := SX.partition_some (by simp) (SX.par_head (sep := []) u f)
theorem index_dig {c : Nat} (h : dig c = true) : Builtin.Str.occurrences (Str.ofString "0123456789") ⟨#[c]⟩ 0 (Str.ofString "0123456789").length 1 = [c - 48] := by
  have := dig_iff.mp h
  have : c = 48 ∨ c = 49 ∨ c = 50 ∨ c = 51 ∨ c = 52 ∨ c = 53 ∨ c = 54 ∨ c = 55 ∨ c = 56 ∨ c = 57 := by omega
  rcases this with e | e | e | e | e | e | e | e | e | e <;> subst e <;> decide +kernel
theorem split47 {ps : List (List Nat)} (hne : ps ≠ []) (h : ∀ p ∈ ps, 47 ∉ p) : Txt.split (SX.S (TL.joinL [47] ps)) (SX.S [47]) = ps.map SX.S := by
  rw [SX.split_S (by simp) (by decide), SX.spl_join hne h]
theorem fold_lt : ∀ (a : List Nat) (v : Nat), a.all dig = true → a.foldl (fun acc c => acc * 10 + (c - 48)) v < (v + 1) * 10 ^ a.length
  | [], v, _ => by simp
  | c :: r, v, h => by
    rw [List.all_cons, Bool.and_eq_true] at h
    have h2 := dig_iff.mp h.1
    have z := fold_lt r (v * 10 + (c - 48)) h.2
    show r.foldl (fun acc c => acc * 10 + (c - 48)) (v * 10 + (c - 48)) < (v + 1) * 10 ^ (r.length + 1)
    refine Nat.lt_of_lt_of_le z ?_
    rw [Nat.pow_succ, Nat.mul_comm (10 ^ r.length) 10, ← Nat.mul_assoc]
    exact Nat.mul_le_mul_right _ (by omega)
theorem digitsVal_lt {a : List Nat} (h : a.all dig = true) : NumText.digitsVal a < 10 ^ a.length := by
  have z := fold_lt a 0 h
  rw [Nat.zero_add, Nat.one_mul] at z
  exact z
namespace Rd
variable {K : PySem.W.Frag} {D : Ends} {σ : L2.St} {H H0 : Hp} {Q : VK} {S : List Addr} {l l' : Led} {te ta : TE} {a b : List Nat} {c : Nat}
theorem bmS {z : Str} {r : V → List V → Hp → VK → Prop} {t : TA} (h : t σ H fun ys H2 => r (.str z) ys H2 Q) : BM K "str" r t σ (.str z) H Q := ⟨rfl, h⟩
theorem stw (h : Q (.bl (decide (a.head? = some c))) H) : rStw (TS a) [TS [c]] H Q := ⟨_, _, rfl, rfl, by rw [startswith1]; exact h⟩
theorem rmp (hl : a.length ≤ 1000) (h : Q (TS (if a.head? = some c then a.tail else a)) H) : rRmp (TS a) [TS [c]] H Q := ⟨_, _, rfl, rfl, S_le hl, by rw [removeprefix1]; exact h⟩
theorem prtN (st : Stt H0 S l H) (hl : a.length ≤ 1000) (f : 47 ∉ a) (k : ∀ p H1, H0 p = none → Stt H0 S ((p, Is (.tup [TS a, TS [], TS []])) :: l) H1 → Q (.ref p) H1) : rPart (TS a) [TS [47]] H Q :=
  ⟨_, _, rfl, rfl, by decide, S_le hl, fun p hp => by rw [cutNone f]; exact k p _ (st.none hp) (st.new hp _)⟩
theorem prtS (st : Stt H0 S l H) (hl : (a ++ 47 :: b).length ≤ 1000) (f : 47 ∉ a) (k : ∀ p H1, H0 p = none → Stt H0 S ((p, Is (.tup [TS a, TS [47], TS b])) :: l) H1 → Q (.ref p) H1) : rPart (TS (a ++ 47 :: b)) [TS [47]] H Q :=
  ⟨_, _, rfl, rfl, by decide, S_le hl, fun p hp => by rw [cutSome b f]; exact k p _ (st.none hp) (st.new hp _)⟩
theorem inSg {z : Str} (h : Q (.bl (decide (c ∈ z.cps.toList))) H) : rInSg (.str ⟨#[c]⟩) (.str z) H Q := ⟨c, z, rfl, rfl, h⟩
theorem sidx {i : Nat} {x z : Str} {rest : List Nat} (e : Builtin.Str.occurrences x z 0 x.length 1 = i :: rest) (h : Q (.int (i : Nat)) H) : rSIdx (.str x) [.str z] H Q := ⟨x, z, i, rest, rfl, rfl, e, h⟩
theorem addS (hz : a.length + b.length ≤ 100000) (h : Q (TS (a ++ b)) H) : rAddS (TS a) (TS b) H Q :=
  ⟨_, _, rfl, rfl, by rw [SX.S_len, SX.S_len]; exact Nat.le_trans hz (by decide), by rw [SX.S_cat]; exact h⟩
theorem intS (hd : a.all dig = true) (hne : a ≠ []) (hl : a.length ≤ 600) (h : Q (.int ((NumText.digitsVal a : Nat) : Int)) H) : rIntS [TS a] H Q :=
  ⟨_, _, rfl, SX.int_S hd hne (by omega), by rw [SX.S_len]; omega, h⟩
theorem listS {z : Str} {xs : List V} (hz : z.length ≤ 100000) (e : (z.cps.toList.map fun c => V.str ⟨#[c]⟩) = xs) (st : Stt H0 S l H) (k : ∀ p H1, H0 p = none → Stt H0 S ((p, Is (.lst xs)) :: l) H1 → Q (.ref p) H1) : rListS [.str z] H Q :=
  ⟨z, rfl, Nat.le_trans hz (by decide), fun p hp => by subst e; exact k p _ (st.none hp) (st.new hp _)⟩
theorem splt {ps : List (List Nat)} (e : a = TL.joinL [47] ps) (hne : ps ≠ []) (hf : ∀ p ∈ ps, 47 ∉ p) (hl : a.length ≤ 1000) (st : Stt H0 S l H) (k : ∀ p H1, H0 p = none → Stt H0 S ((p, Is (.lst (ps.map TS))) :: l) H1 → Q (.ref p) H1) : rSplit (TS a) [TS [47]] H Q :=
  ⟨_, _, rfl, rfl, by decide, by rw [SX.S_len]; exact Nat.le_trans (Nat.add_le_add_right hl 2) (by decide), fun p hp => by
    have z := k p _ (st.none hp) (st.new hp _)
    rw [e, split47 hne hf, List.map_map]
    exact z⟩
theorem ixS {i : Int} (hl : a.length ≤ 1000) (e : atI a i = some c) (h : Q (TS [c]) H) : rIxS (TS a) (.int i) H Q := ⟨_, i, c, rfl, rfl, S_le hl, e, h⟩
theorem slTo {i : Int} (hl : a.length ≤ 1000) (hi : 0 ≤ i) (h : Q (TS (a.take i.toNat)) H) : C8.rSlX (TS a) none (some i) H Q := ⟨_, rfl, S_le hl, by rw [SX.slice_to hi]; exact h⟩
theorem slFrom {i : Int} (hl : a.length ≤ 1000) (hi : 0 ≤ i) (h : Q (TS (a.drop i.toNat)) H) : C8.rSlX (TS a) (some i) none H Q := ⟨_, rfl, S_le hl, by rw [SX.slice_from hi]; exact h⟩
def WS (x : V) (H1 : Hp) (R : It → Hp → Prop) : Prop := ∃ z, x = .str z ∧ R (Its z) H1
theorem wS {R : It → Hp → Prop} (h : te σ H fun x H1 => WS x H1 R) : iStr te σ H R := h
theorem wSL {z : Str} {R : It → Hp → Prop} (h : R (Its z) H) : WS (.str z) H R := ⟨z, rfl, h⟩
theorem inT {p : Addr} {x : V} {xs : List V} (st : Stt H0 S l H) (m : (p, Is (.tup xs)) ∈ l) (f : flatV x = true) (fs : xs.all flatV = true) (h : Q (.bl (inV x xs)) H) : rIn K false x (.ref p) H Q := ⟨p, xs, rfl, .inr (st.sqT m), f, fs, h⟩
theorem neD {x y : V} {d e : PyData} (h1 : Dp K H x d) (h2 : Dp K H y e) (s1 : SeqAt.shaped d = true) (s2 : SeqAt.shaped e = true) (h : Q (.bl (!PyData.eqv d e)) H) : rNeD K x y H Q := ⟨d, e, h1, h2, s1, s2, h⟩
end Rd
end Lt

namespace Law
open PySem PySem.Spec PyProof.Rows L2 Lt
def top (i : Nat) : Stmt := PySem.Challenge.pw_looptimes_k05_span_texts.main.body.getD i (.Pass ⟨0, 0, 0, 0⟩)
abbrev s_BadText_init : Stmt := inClass (top 4) 0
theorem sc_BadText_init : FnScope ["self", "line"] ["self", "line"] (defScope s_BadText_init) := ⟨rfl, rfl, rfl, by decide +kernel, rfl, by decide +kernel, by decide +kernel⟩
abbrev s_is_integer : Stmt := top 7
theorem sc_is_integer : FnScope ["thing"] ["thing"] (defScope s_is_integer) := ⟨rfl, rfl, rfl, by decide +kernel, rfl, by decide +kernel, by decide +kernel⟩
abbrev s_is_numeral : Stmt := top 8
theorem sc_is_numeral : FnScope ["text", "digit"] ["text"] (defScope s_is_numeral) := ⟨rfl, rfl, rfl, by decide +kernel, rfl, by decide +kernel, by decide +kernel⟩
abbrev s_numeral_value : Stmt := top 9
theorem sc_numeral_value : FnScope ["text", "value", "digit"] ["text"] (defScope s_numeral_value) := ⟨rfl, rfl, rfl, by decide +kernel, rfl, by decide +kernel, by decide +kernel⟩
abbrev s_Span_init : Stmt := inClass (top 11) 0
theorem sc_Span_init : FnScope ["self", "over", "under", "shared"] ["self", "over", "under"] (defScope s_Span_init) := ⟨rfl, rfl, rfl, by decide +kernel, rfl, by decide +kernel, by decide +kernel⟩
abbrev s_Span_text : Stmt := inClass (top 11) 18
theorem sc_Span_text : FnScope ["self"] ["self"] (defScope s_Span_text) := ⟨rfl, rfl, rfl, by decide +kernel, rfl, by decide +kernel, by decide +kernel⟩
abbrev s_Span_of_text : Stmt := inClass (top 11) 19
theorem sc_Span_of_text : FnScope ["text", "over", "slash", "under", "negative", "value", "below", "span"] ["text"] (defScope s_Span_of_text) := ⟨rfl, rfl, rfl, by decide +kernel, rfl, by decide +kernel, by decide +kernel⟩
abbrev s_l_fresh : Stmt := top 20
theorem sc_l_fresh : FnScope ["_law_script"] ["_law_script"] (defScope s_l_fresh) := ⟨rfl, rfl, rfl, by decide +kernel, rfl, by decide +kernel, by decide +kernel⟩
abbrev s_l_fill : Stmt := top 21
theorem sc_l_fill : FnScope ["_law_state", "_law_cells", "_law_nth", "_law_seed", "_law_k", "_law_prime", "_law_far"] ["_law_state"] (defScope s_l_fill) := ⟨rfl, rfl, rfl, by decide +kernel, rfl, by decide +kernel, by decide +kernel⟩
abbrev s_l_take : Stmt := top 22
theorem sc_l_take : FnScope ["_law_state", "_law_many", "_law_laps", "_law_digit"] ["_law_state", "_law_many"] (defScope s_l_take) := ⟨rfl, rfl, rfl, by decide +kernel, rfl, by decide +kernel, by decide +kernel⟩
abbrev s_l_one : Stmt := top 23
theorem sc_l_one : FnScope ["_law_state", "_law_things"] ["_law_state", "_law_things"] (defScope s_l_one) := ⟨rfl, rfl, rfl, by decide +kernel, rfl, by decide +kernel, by decide +kernel⟩
abbrev s_l_same : Stmt := top 24
theorem sc_l_same : FnScope ["_law_found", "_law_due", "_law_a", "_law_b"] ["_law_found", "_law_due"] (defScope s_l_same) := ⟨rfl, rfl, rfl, by decide +kernel, rfl, by decide +kernel, by decide +kernel⟩
abbrev s_l_low : Stmt := top 25
theorem sc_l_low : FnScope ["_law_top", "_law_low_here", "_law_one_here", "_law_other"] ["_law_top", "_law_low_here"] (defScope s_l_low) := ⟨rfl, rfl, rfl, by decide +kernel, rfl, by decide +kernel, by decide +kernel⟩
abbrev s_l_fraction : Stmt := top 26
theorem sc_l_fraction : FnScope ["_law_state"] ["_law_state"] (defScope s_l_fraction) := ⟨rfl, rfl, rfl, by decide +kernel, rfl, by decide +kernel, by decide +kernel⟩
abbrev s_l_figure : Stmt := top 27
theorem sc_l_figure : FnScope ["_law_state", "_law_great"] ["_law_state"] (defScope s_l_figure) := ⟨rfl, rfl, rfl, by decide +kernel, rfl, by decide +kernel, by decide +kernel⟩
abbrev s_l_text : Stmt := top 28
theorem sc_l_text : FnScope ["_law_x"] ["_law_x"] (defScope s_l_text) := ⟨rfl, rfl, rfl, by decide +kernel, rfl, by decide +kernel, by decide +kernel⟩
abbrev s_l_is_figures : Stmt := top 29
theorem sc_l_is_figures : FnScope ["_law_text_here", "_law_sign"] ["_law_text_here"] (defScope s_l_is_figures) := ⟨rfl, rfl, rfl, by decide +kernel, rfl, by decide +kernel, by decide +kernel⟩
abbrev s_l_is_text : Stmt := top 30
theorem sc_l_is_text : FnScope ["_law_text_here", "_law_parts", "_law_head", "_law_x"] ["_law_text_here"] (defScope s_l_is_text) := ⟨rfl, rfl, rfl, by decide +kernel, rfl, by decide +kernel, by decide +kernel⟩
abbrev s_l_bent : Stmt := top 31
theorem sc_l_bent : FnScope ["_law_state", "_law_text_here", "_law_at", "_law_sign", "_law_way"] ["_law_state", "_law_text_here"] (defScope s_l_bent) := ⟨rfl, rfl, rfl, by decide +kernel, rfl, by decide +kernel, by decide +kernel⟩
abbrev s_l_tried : Stmt := top 32
theorem sc_l_tried : FnScope ["_law_text_here", "_law_found", "_law_made", "e"] ["_law_text_here"] (defScope s_l_tried) := ⟨rfl, rfl, rfl, by decide +kernel, rfl, by decide +kernel, by decide +kernel⟩
abbrev s_law : Stmt := top 33
theorem sc_law : FnScope ["_law_script", "_law_state", "_law_turn", "_law_x", "_law_text_here", "_law_others", "_law_some", "_law_other", "_law_found", "_law_k"] ["_law_script"] (defScope s_law) := ⟨rfl, rfl, rfl, by decide +kernel, rfl, by decide +kernel, by decide +kernel⟩
def d_BadText_init : He.DefD := ⟨("BadText", some "__init__"), "__init__", "BadText.__init__", defArgs s_BadText_init, defBody s_BadText_init, defScope s_BadText_init, [], []⟩
def d_is_integer : He.DefD := ⟨("is_integer", none), "is_integer", "is_integer", defArgs s_is_integer, defBody s_is_integer, defScope s_is_integer, [], []⟩
def d_is_numeral : He.DefD := ⟨("is_numeral", none), "is_numeral", "is_numeral", defArgs s_is_numeral, defBody s_is_numeral, defScope s_is_numeral, [], []⟩
def d_numeral_value : He.DefD := ⟨("numeral_value", none), "numeral_value", "numeral_value", defArgs s_numeral_value, defBody s_numeral_value, defScope s_numeral_value, [], []⟩
def d_Span_init : He.DefD := ⟨("Span", some "__init__"), "__init__", "Span.__init__", defArgs s_Span_init, defBody s_Span_init, defScope s_Span_init, [.int 1], []⟩
def d_Span_text : He.DefD := ⟨("Span", some "text"), "text", "Span.text", defArgs s_Span_text, defBody s_Span_text, defScope s_Span_text, [], []⟩
def d_Span_of_text : He.DefD := ⟨("Span", some "of_text"), "of_text", "Span.of_text", defArgs s_Span_of_text, defBody s_Span_of_text, defScope s_Span_of_text, [], []⟩
def d_l_fresh : He.DefD := ⟨("_law_fresh", none), "_law_fresh", "_law_fresh", defArgs s_l_fresh, defBody s_l_fresh, defScope s_l_fresh, [], []⟩
def d_l_fill : He.DefD := ⟨("_law_fill", none), "_law_fill", "_law_fill", defArgs s_l_fill, defBody s_l_fill, defScope s_l_fill, [], []⟩
def d_l_take : He.DefD := ⟨("_law_take", none), "_law_take", "_law_take", defArgs s_l_take, defBody s_l_take, defScope s_l_take, [], []⟩
def d_l_one : He.DefD := ⟨("_law_one", none), "_law_one", "_law_one", defArgs s_l_one, defBody s_l_one, defScope s_l_one, [], []⟩
def d_l_same : He.DefD := ⟨("_law_same", none), "_law_same", "_law_same", defArgs s_l_same, defBody s_l_same, defScope s_l_same, [], []⟩
def d_l_low : He.DefD := ⟨("_law_low", none), "_law_low", "_law_low", defArgs s_l_low, defBody s_l_low, defScope s_l_low, [], []⟩
def d_l_fraction : He.DefD := ⟨("_law_fraction", none), "_law_fraction", "_law_fraction", defArgs s_l_fraction, defBody s_l_fraction, defScope s_l_fraction, [], []⟩
def d_l_figure : He.DefD := ⟨("_law_figure", none), "_law_figure", "_law_figure", defArgs s_l_figure, defBody s_l_figure, defScope s_l_figure, [], []⟩
def d_l_text : He.DefD := ⟨("_law_text", none), "_law_text", "_law_text", defArgs s_l_text, defBody s_l_text, defScope s_l_text, [], []⟩
def d_l_is_figures : He.DefD := ⟨("_law_is_figures", none), "_law_is_figures", "_law_is_figures", defArgs s_l_is_figures, defBody s_l_is_figures, defScope s_l_is_figures, [], []⟩
def d_l_is_text : He.DefD := ⟨("_law_is_text", none), "_law_is_text", "_law_is_text", defArgs s_l_is_text, defBody s_l_is_text, defScope s_l_is_text, [], []⟩
def d_l_bent : He.DefD := ⟨("_law_bent", none), "_law_bent", "_law_bent", defArgs s_l_bent, defBody s_l_bent, defScope s_l_bent, [], []⟩
def d_l_tried : He.DefD := ⟨("_law_tried", none), "_law_tried", "_law_tried", defArgs s_l_tried, defBody s_l_tried, defScope s_l_tried, [], []⟩
def d_law : He.DefD := ⟨("law", none), "law", "law", defArgs s_law, defBody s_law, defScope s_law, [], []⟩
def fn : List He.DefD := [d_BadText_init, d_is_integer, d_is_numeral, d_numeral_value, d_Span_init, d_Span_text, d_l_fresh, d_l_fill, d_l_take, d_l_one, d_l_same, d_l_low, d_l_fraction, d_l_figure, d_l_text, d_l_is_figures, d_l_is_text, d_l_bent, d_l_tried, d_law]
def sn : List He.DefD := [d_Span_of_text]
def fa : List He.Fa := [.glo "is_integer",
  .glo "is_numeral",
  .glo "numeral_value",
  .meth "Span" "text",
  .glo "_law_fresh",
  .glo "_law_fill",
  .glo "_law_take",
  .glo "_law_one",
  .glo "_law_same",
  .glo "_law_low",
  .glo "_law_fraction",
  .glo "_law_figure",
  .glo "_law_text",
  .glo "_law_is_figures",
  .glo "_law_is_text",
  .glo "_law_bent",
  .glo "_law_tried",
  .glo "law",
  .free "len",
  .free "int",
  .free "abs",
  .free "range",
  .free "enumerate",
  .free "isinstance",
  .free "all",
  .free "zip",
  .free "bool",
  .free "list",
  .free "tuple",
  .free "str",
  .glo "Span",
  .cls "Span",
  .mkr "Span",
  .glo "BadText",
  .noat "BadText" "line",
  .str "DIGITS" "0123456789",
  .noat "Span" "over",
  .noat "Span" "under"]
def fs : List (PySem.W.Frag → Bool) := [(fun K => decide (PySem.W.nsIn K mainGlobals "gcd" = some (some (.builtin "math.gcd")))),
  (fun K => Lt.insTB K (He.ga K "Span")),
  (fun K => Lt.sMetB K "Span" "of_text"),
  (fun K => Lt.exKB K "BadText")]
structure Txt (K : PySem.W.Frag) (mg : Str → Option Value) where
  fd_BadText_init : FuncData
  F_BadText_init : FunD K "__init__" "BadText.__init__" (defArgs s_BadText_init) (defBody s_BadText_init) (defScope s_BadText_init) [] [] (He.fAd K ("BadText", some "__init__")) fd_BadText_init
  fd_is_integer : FuncData
  F_is_integer : FunD K "is_integer" "is_integer" (defArgs s_is_integer) (defBody s_is_integer) (defScope s_is_integer) [] [] (He.fAd K ("is_integer", none)) fd_is_integer
  g_is_integer : mg "is_integer" = some (.ref (He.fAd K ("is_integer", none)))
  fd_is_numeral : FuncData
  F_is_numeral : FunD K "is_numeral" "is_numeral" (defArgs s_is_numeral) (defBody s_is_numeral) (defScope s_is_numeral) [] [] (He.fAd K ("is_numeral", none)) fd_is_numeral
  g_is_numeral : mg "is_numeral" = some (.ref (He.fAd K ("is_numeral", none)))
  fd_numeral_value : FuncData
  F_numeral_value : FunD K "numeral_value" "numeral_value" (defArgs s_numeral_value) (defBody s_numeral_value) (defScope s_numeral_value) [] [] (He.fAd K ("numeral_value", none)) fd_numeral_value
  g_numeral_value : mg "numeral_value" = some (.ref (He.fAd K ("numeral_value", none)))
  fd_Span_init : FuncData
  F_Span_init : FunD K "__init__" "Span.__init__" (defArgs s_Span_init) (defBody s_Span_init) (defScope s_Span_init) [.int 1] [] (He.fAd K ("Span", some "__init__")) fd_Span_init
  fd_Span_text : FuncData
  F_Span_text : FunD K "text" "Span.text" (defArgs s_Span_text) (defBody s_Span_text) (defScope s_Span_text) [] [] (He.fAd K ("Span", some "text")) fd_Span_text
  m_Span_text : Meth K (He.ga K "Span") "text" (He.fAd K ("Span", some "text"))
  fd_Span_of_text : FuncData
  F_Span_of_text : FunD K "of_text" "Span.of_text" (defArgs s_Span_of_text) (defBody s_Span_of_text) (defScope s_Span_of_text) [] [] (Lt.sAd K ("Span", some "of_text")) fd_Span_of_text
  fd_l_fresh : FuncData
  F_l_fresh : FunD K "_law_fresh" "_law_fresh" (defArgs s_l_fresh) (defBody s_l_fresh) (defScope s_l_fresh) [] [] (He.fAd K ("_law_fresh", none)) fd_l_fresh
  g_l_fresh : mg "_law_fresh" = some (.ref (He.fAd K ("_law_fresh", none)))
  fd_l_fill : FuncData
  F_l_fill : FunD K "_law_fill" "_law_fill" (defArgs s_l_fill) (defBody s_l_fill) (defScope s_l_fill) [] [] (He.fAd K ("_law_fill", none)) fd_l_fill
  g_l_fill : mg "_law_fill" = some (.ref (He.fAd K ("_law_fill", none)))
  fd_l_take : FuncData
  F_l_take : FunD K "_law_take" "_law_take" (defArgs s_l_take) (defBody s_l_take) (defScope s_l_take) [] [] (He.fAd K ("_law_take", none)) fd_l_take
  g_l_take : mg "_law_take" = some (.ref (He.fAd K ("_law_take", none)))
  fd_l_one : FuncData
  F_l_one : FunD K "_law_one" "_law_one" (defArgs s_l_one) (defBody s_l_one) (defScope s_l_one) [] [] (He.fAd K ("_law_one", none)) fd_l_one
  g_l_one : mg "_law_one" = some (.ref (He.fAd K ("_law_one", none)))
  fd_l_same : FuncData
  F_l_same : FunD K "_law_same" "_law_same" (defArgs s_l_same) (defBody s_l_same) (defScope s_l_same) [] [] (He.fAd K ("_law_same", none)) fd_l_same
  g_l_same : mg "_law_same" = some (.ref (He.fAd K ("_law_same", none)))
  fd_l_low : FuncData
  F_l_low : FunD K "_law_low" "_law_low" (defArgs s_l_low) (defBody s_l_low) (defScope s_l_low) [] [] (He.fAd K ("_law_low", none)) fd_l_low
  g_l_low : mg "_law_low" = some (.ref (He.fAd K ("_law_low", none)))
  fd_l_fraction : FuncData
  F_l_fraction : FunD K "_law_fraction" "_law_fraction" (defArgs s_l_fraction) (defBody s_l_fraction) (defScope s_l_fraction) [] [] (He.fAd K ("_law_fraction", none)) fd_l_fraction
  g_l_fraction : mg "_law_fraction" = some (.ref (He.fAd K ("_law_fraction", none)))
  fd_l_figure : FuncData
  F_l_figure : FunD K "_law_figure" "_law_figure" (defArgs s_l_figure) (defBody s_l_figure) (defScope s_l_figure) [] [] (He.fAd K ("_law_figure", none)) fd_l_figure
  g_l_figure : mg "_law_figure" = some (.ref (He.fAd K ("_law_figure", none)))
  fd_l_text : FuncData
  F_l_text : FunD K "_law_text" "_law_text" (defArgs s_l_text) (defBody s_l_text) (defScope s_l_text) [] [] (He.fAd K ("_law_text", none)) fd_l_text
  g_l_text : mg "_law_text" = some (.ref (He.fAd K ("_law_text", none)))
  fd_l_is_figures : FuncData
  F_l_is_figures : FunD K "_law_is_figures" "_law_is_figures" (defArgs s_l_is_figures) (defBody s_l_is_figures) (defScope s_l_is_figures) [] [] (He.fAd K ("_law_is_figures", none)) fd_l_is_figures
  g_l_is_figures : mg "_law_is_figures" = some (.ref (He.fAd K ("_law_is_figures", none)))
  fd_l_is_text : FuncData
  F_l_is_text : FunD K "_law_is_text" "_law_is_text" (defArgs s_l_is_text) (defBody s_l_is_text) (defScope s_l_is_text) [] [] (He.fAd K ("_law_is_text", none)) fd_l_is_text
  g_l_is_text : mg "_law_is_text" = some (.ref (He.fAd K ("_law_is_text", none)))
  fd_l_bent : FuncData
  F_l_bent : FunD K "_law_bent" "_law_bent" (defArgs s_l_bent) (defBody s_l_bent) (defScope s_l_bent) [] [] (He.fAd K ("_law_bent", none)) fd_l_bent
  g_l_bent : mg "_law_bent" = some (.ref (He.fAd K ("_law_bent", none)))
  fd_l_tried : FuncData
  F_l_tried : FunD K "_law_tried" "_law_tried" (defArgs s_l_tried) (defBody s_l_tried) (defScope s_l_tried) [] [] (He.fAd K ("_law_tried", none)) fd_l_tried
  g_l_tried : mg "_law_tried" = some (.ref (He.fAd K ("_law_tried", none)))
  fd_law : FuncData
  F_law : FunD K "law" "law" (defArgs s_law) (defBody s_law) (defScope s_law) [] [] (He.fAd K ("law", none)) fd_law
  g_law : mg "law" = some (.ref (He.fAd K ("law", none)))
  n_len : mg "len" = none
  n_int : mg "int" = none
  n_abs : mg "abs" = none
  n_range : mg "range" = none
  n_enumerate : mg "enumerate" = none
  n_isinstance : mg "isinstance" = none
  n_all : mg "all" = none
  n_zip : mg "zip" = none
  n_bool : mg "bool" = none
  n_list : mg "list" = none
  n_tuple : mg "tuple" = none
  n_str : mg "str" = none
  g_Span : mg "Span" = some (.ref (He.ga K "Span"))
  c_Span : Cls K (He.ga K "Span")
  k_Span : Mk K (He.ga K "Span") (He.fAd K ("Span", some "__init__"))
  g_BadText : mg "BadText" = some (.ref (He.ga K "BadText"))
  a_BadText_line : PySem.W.findIn K (.ref (He.ga K "BadText")) "line" = some none
  g_DIGITS : ∃ t, mg "DIGITS" = some (.str "0123456789" t)
  a_Span_over : NoAttr K (He.ga K "Span") "over"
  a_Span_under : NoAttr K (He.ga K "Span") "under"
  g_gcd : mg "gcd" = some (.builtin "math.gcd")
  i_Span : Lt.InsT K (He.ga K "Span")
  s_Span_of_text : Lt.SMet K (He.ga K "Span") (Lt.sAd K ("Span", some "of_text")) "of_text"
  x_BadText : Lt.ExK K (He.ga K "BadText") (He.fAd K ("BadText", some "__init__"))
  b_BadText_init : Binds K fd_BadText_init ["self", "line"] []
  b_is_integer : Binds K fd_is_integer ["thing"] []
  b_is_numeral : Binds K fd_is_numeral ["text"] []
  b_numeral_value : Binds K fd_numeral_value ["text"] []
  b_Span_init1 : ∃ ds, Vals [.int 1] ds ∧ Binds K fd_Span_init ["self", "over", "under"] ds
  b_Span_init2 : ∃ ds, Vals ([] : List V) ds ∧ Binds K fd_Span_init ["self", "over", "under"] ds
  b_Span_text : Binds K fd_Span_text ["self"] []
  b_Span_of_text : Binds K fd_Span_of_text ["text"] []
  b_l_fresh : Binds K fd_l_fresh ["_law_script"] []
  b_l_fill : Binds K fd_l_fill ["_law_state"] []
  b_l_take : Binds K fd_l_take ["_law_state", "_law_many"] []
  b_l_one : Binds K fd_l_one ["_law_state", "_law_things"] []
  b_l_same : Binds K fd_l_same ["_law_found", "_law_due"] []
  b_l_low : Binds K fd_l_low ["_law_top", "_law_low_here"] []
  b_l_fraction : Binds K fd_l_fraction ["_law_state"] []
  b_l_figure : Binds K fd_l_figure ["_law_state"] []
  b_l_text : Binds K fd_l_text ["_law_x"] []
  b_l_is_figures : Binds K fd_l_is_figures ["_law_text_here"] []
  b_l_is_text : Binds K fd_l_is_text ["_law_text_here"] []
  b_l_bent : Binds K fd_l_bent ["_law_state", "_law_text_here"] []
  b_l_tried : Binds K fd_l_tried ["_law_text_here"] []
  b_law : Binds K fd_law ["_law_script"] []
theorem txt_of {K : PySem.W.Frag} {h : Heap} {mg : Str → Option Value} (X : K.In h) (G : h.Ns mainGlobals mg) (c : Lt.SaysS fa fs fn sn K) : Nonempty (Txt K mg) := by
  obtain ⟨fd_BadText_init, F_BadText_init⟩ := c.def_ 0 (d := d_BadText_init) rfl
  have b_BadText_init := FunD.bindsN (ps := ["self", "line"]) F_BadText_init fun _ _ _ _ _ _ us hl => match us, hl with | [_, _], _ => rfl
  obtain ⟨fd_is_integer, F_is_integer⟩ := c.def_ 1 (d := d_is_integer) rfl
  have b_is_integer := FunD.bindsN (ps := ["thing"]) F_is_integer fun _ _ _ _ _ _ us hl => match us, hl with | [_], _ => rfl
  obtain ⟨fd_is_numeral, F_is_numeral⟩ := c.def_ 2 (d := d_is_numeral) rfl
  have b_is_numeral := FunD.bindsN (ps := ["text"]) F_is_numeral fun _ _ _ _ _ _ us hl => match us, hl with | [_], _ => rfl
  obtain ⟨fd_numeral_value, F_numeral_value⟩ := c.def_ 3 (d := d_numeral_value) rfl
  have b_numeral_value := FunD.bindsN (ps := ["text"]) F_numeral_value fun _ _ _ _ _ _ us hl => match us, hl with | [_], _ => rfl
  obtain ⟨fd_Span_init, F_Span_init⟩ := c.def_ 4 (d := d_Span_init) rfl
  obtain ⟨fd_Span_text, F_Span_text⟩ := c.def_ 5 (d := d_Span_text) rfl
  have b_Span_text := FunD.bindsN (ps := ["self"]) F_Span_text fun _ _ _ _ _ _ us hl => match us, hl with | [_], _ => rfl
  obtain ⟨fd_Span_of_text, F_Span_of_text⟩ := c.stat 0 (d := d_Span_of_text) rfl
  have b_Span_of_text := FunD.bindsN (ps := ["text"]) F_Span_of_text fun _ _ _ _ _ _ us hl => match us, hl with | [_], _ => rfl
  obtain ⟨fd_l_fresh, F_l_fresh⟩ := c.def_ 6 (d := d_l_fresh) rfl
  have b_l_fresh := FunD.bindsN (ps := ["_law_script"]) F_l_fresh fun _ _ _ _ _ _ us hl => match us, hl with | [_], _ => rfl
  obtain ⟨fd_l_fill, F_l_fill⟩ := c.def_ 7 (d := d_l_fill) rfl
  have b_l_fill := FunD.bindsN (ps := ["_law_state"]) F_l_fill fun _ _ _ _ _ _ us hl => match us, hl with | [_], _ => rfl
  obtain ⟨fd_l_take, F_l_take⟩ := c.def_ 8 (d := d_l_take) rfl
  have b_l_take := FunD.bindsN (ps := ["_law_state", "_law_many"]) F_l_take fun _ _ _ _ _ _ us hl => match us, hl with | [_, _], _ => rfl
  obtain ⟨fd_l_one, F_l_one⟩ := c.def_ 9 (d := d_l_one) rfl
  have b_l_one := FunD.bindsN (ps := ["_law_state", "_law_things"]) F_l_one fun _ _ _ _ _ _ us hl => match us, hl with | [_, _], _ => rfl
  obtain ⟨fd_l_same, F_l_same⟩ := c.def_ 10 (d := d_l_same) rfl
  have b_l_same := FunD.bindsN (ps := ["_law_found", "_law_due"]) F_l_same fun _ _ _ _ _ _ us hl => match us, hl with | [_, _], _ => rfl
  obtain ⟨fd_l_low, F_l_low⟩ := c.def_ 11 (d := d_l_low) rfl
  have b_l_low := FunD.bindsN (ps := ["_law_top", "_law_low_here"]) F_l_low fun _ _ _ _ _ _ us hl => match us, hl with | [_, _], _ => rfl
  obtain ⟨fd_l_fraction, F_l_fraction⟩ := c.def_ 12 (d := d_l_fraction) rfl
  have b_l_fraction := FunD.bindsN (ps := ["_law_state"]) F_l_fraction fun _ _ _ _ _ _ us hl => match us, hl with | [_], _ => rfl
  obtain ⟨fd_l_figure, F_l_figure⟩ := c.def_ 13 (d := d_l_figure) rfl
  have b_l_figure := FunD.bindsN (ps := ["_law_state"]) F_l_figure fun _ _ _ _ _ _ us hl => match us, hl with | [_], _ => rfl
  obtain ⟨fd_l_text, F_l_text⟩ := c.def_ 14 (d := d_l_text) rfl
  have b_l_text := FunD.bindsN (ps := ["_law_x"]) F_l_text fun _ _ _ _ _ _ us hl => match us, hl with | [_], _ => rfl
  obtain ⟨fd_l_is_figures, F_l_is_figures⟩ := c.def_ 15 (d := d_l_is_figures) rfl
  have b_l_is_figures := FunD.bindsN (ps := ["_law_text_here"]) F_l_is_figures fun _ _ _ _ _ _ us hl => match us, hl with | [_], _ => rfl
  obtain ⟨fd_l_is_text, F_l_is_text⟩ := c.def_ 16 (d := d_l_is_text) rfl
  have b_l_is_text := FunD.bindsN (ps := ["_law_text_here"]) F_l_is_text fun _ _ _ _ _ _ us hl => match us, hl with | [_], _ => rfl
  obtain ⟨fd_l_bent, F_l_bent⟩ := c.def_ 17 (d := d_l_bent) rfl
  have b_l_bent := FunD.bindsN (ps := ["_law_state", "_law_text_here"]) F_l_bent fun _ _ _ _ _ _ us hl => match us, hl with | [_, _], _ => rfl
  obtain ⟨fd_l_tried, F_l_tried⟩ := c.def_ 18 (d := d_l_tried) rfl
  have b_l_tried := FunD.bindsN (ps := ["_law_text_here"]) F_l_tried fun _ _ _ _ _ _ us hl => match us, hl with | [_], _ => rfl
  obtain ⟨fd_law, F_law⟩ := c.def_ 19 (d := d_law) rfl
  have b_law := FunD.bindsN (ps := ["_law_script"]) F_law fun _ _ _ _ _ _ us hl => match us, hl with | [_], _ => rfl
  have b_Span_init1 : ∃ ds, Vals [.int 1] ds ∧ Binds K fd_Span_init ["self", "over", "under"] ds := FunD.binds1 (ps := ["self", "over", "under"]) F_Span_init 2 0 (fun z => by cases z) rfl (fun T kV doc pm an cdv ct us its hu hi => match us, hu, its, hi with | [_, _], _, [_], _ => ⟨_, rfl, rfl⟩)
  have b_Span_init2 : ∃ ds, Vals ([] : List V) ds ∧ Binds K fd_Span_init ["self", "over", "under"] ds := FunD.binds1 (ps := ["self", "over", "under"]) F_Span_init 3 1 (fun z => by cases z) rfl (fun T kV doc pm an cdv ct us its hu hi => match us, hu, its, hi with | [_, _, _], _, [_], _ => ⟨_, rfl, rfl⟩)
  exact ⟨{ fd_BadText_init := fd_BadText_init, F_BadText_init := F_BadText_init, b_BadText_init := b_BadText_init, fd_is_integer := fd_is_integer, F_is_integer := F_is_integer, b_is_integer := b_is_integer, fd_is_numeral := fd_is_numeral, F_is_numeral := F_is_numeral, b_is_numeral := b_is_numeral, fd_numeral_value := fd_numeral_value, F_numeral_value := F_numeral_value, b_numeral_value := b_numeral_value, fd_Span_init := fd_Span_init, F_Span_init := F_Span_init, fd_Span_text := fd_Span_text, F_Span_text := F_Span_text, b_Span_text := b_Span_text, fd_Span_of_text := fd_Span_of_text, F_Span_of_text := F_Span_of_text, b_Span_of_text := b_Span_of_text, fd_l_fresh := fd_l_fresh, F_l_fresh := F_l_fresh, b_l_fresh := b_l_fresh, fd_l_fill := fd_l_fill, F_l_fill := F_l_fill, b_l_fill := b_l_fill, fd_l_take := fd_l_take, F_l_take := F_l_take, b_l_take := b_l_take, fd_l_one := fd_l_one, F_l_one := F_l_one, b_l_one := b_l_one, fd_l_same := fd_l_same, F_l_same := F_l_same, b_l_same := b_l_same, fd_l_low := fd_l_low, F_l_low := F_l_low, b_l_low := b_l_low, fd_l_fraction := fd_l_fraction, F_l_fraction := F_l_fraction, b_l_fraction := b_l_fraction, fd_l_figure := fd_l_figure, F_l_figure := F_l_figure, b_l_figure := b_l_figure, fd_l_text := fd_l_text, F_l_text := F_l_text, b_l_text := b_l_text, fd_l_is_figures := fd_l_is_figures, F_l_is_figures := F_l_is_figures, b_l_is_figures := b_l_is_figures, fd_l_is_text := fd_l_is_text, F_l_is_text := F_l_is_text, b_l_is_text := b_l_is_text, fd_l_bent := fd_l_bent, F_l_bent := F_l_bent, b_l_bent := b_l_bent, fd_l_tried := fd_l_tried, F_l_tried := F_l_tried, b_l_tried := b_l_tried, fd_law := fd_law, F_law := F_law, b_law := b_law, g_is_integer := He.glo_ok X G (c.fact 0 (f := .glo "is_integer") rfl), g_is_numeral := He.glo_ok X G (c.fact 1 (f := .glo "is_numeral") rfl), g_numeral_value := He.glo_ok X G (c.fact 2 (f := .glo "numeral_value") rfl), m_Span_text := He.meth_ok (c.fact 3 (f := .meth "Span" "text") rfl), g_l_fresh := He.glo_ok X G (c.fact 4 (f := .glo "_law_fresh") rfl), g_l_fill := He.glo_ok X G (c.fact 5 (f := .glo "_law_fill") rfl), g_l_take := He.glo_ok X G (c.fact 6 (f := .glo "_law_take") rfl), g_l_one := He.glo_ok X G (c.fact 7 (f := .glo "_law_one") rfl), g_l_same := He.glo_ok X G (c.fact 8 (f := .glo "_law_same") rfl), g_l_low := He.glo_ok X G (c.fact 9 (f := .glo "_law_low") rfl), g_l_fraction := He.glo_ok X G (c.fact 10 (f := .glo "_law_fraction") rfl), g_l_figure := He.glo_ok X G (c.fact 11 (f := .glo "_law_figure") rfl), g_l_text := He.glo_ok X G (c.fact 12 (f := .glo "_law_text") rfl), g_l_is_figures := He.glo_ok X G (c.fact 13 (f := .glo "_law_is_figures") rfl), g_l_is_text := He.glo_ok X G (c.fact 14 (f := .glo "_law_is_text") rfl), g_l_bent := He.glo_ok X G (c.fact 15 (f := .glo "_law_bent") rfl), g_l_tried := He.glo_ok X G (c.fact 16 (f := .glo "_law_tried") rfl), g_law := He.glo_ok X G (c.fact 17 (f := .glo "law") rfl), n_len := He.free_ok X G (c.fact 18 (f := .free "len") rfl), n_int := He.free_ok X G (c.fact 19 (f := .free "int") rfl), n_abs := He.free_ok X G (c.fact 20 (f := .free "abs") rfl), n_range := He.free_ok X G (c.fact 21 (f := .free "range") rfl), n_enumerate := He.free_ok X G (c.fact 22 (f := .free "enumerate") rfl), n_isinstance := He.free_ok X G (c.fact 23 (f := .free "isinstance") rfl), n_all := He.free_ok X G (c.fact 24 (f := .free "all") rfl), n_zip := He.free_ok X G (c.fact 25 (f := .free "zip") rfl), n_bool := He.free_ok X G (c.fact 26 (f := .free "bool") rfl), n_list := He.free_ok X G (c.fact 27 (f := .free "list") rfl), n_tuple := He.free_ok X G (c.fact 28 (f := .free "tuple") rfl), n_str := He.free_ok X G (c.fact 29 (f := .free "str") rfl), g_Span := He.glo_ok X G (c.fact 30 (f := .glo "Span") rfl), c_Span := He.cls_ok (c.fact 31 (f := .cls "Span") rfl), k_Span := He.mkr_ok (c.fact 32 (f := .mkr "Span") rfl), g_BadText := He.glo_ok X G (c.fact 33 (f := .glo "BadText") rfl), a_BadText_line := He.noat_ok (c.fact 34 (f := .noat "BadText" "line") rfl), g_DIGITS := He.str_ok X G (c.fact 35 (f := .str "DIGITS" "0123456789") rfl), a_Span_over := He.noat_ok (c.fact 36 (f := .noat "Span" "over") rfl), a_Span_under := He.noat_ok (c.fact 37 (f := .noat "Span" "under") rfl), g_gcd := PySem.W.mg_of X G (of_decide_eq_true (c.chk 0 rfl)), i_Span := Lt.insT_of (He.cls_ok (c.fact 31 (f := .cls "Span") rfl)) (c.chk 1 rfl), s_Span_of_text := Lt.sMet_of (c.chk 2 rfl), x_BadText := Lt.exK_of (c.chk 3 rfl), b_Span_init1 := b_Span_init1, b_Span_init2 := b_Span_init2 }⟩
section
local macro_rules | `(tactic| walk_at "subl") => `(tactic| first | with_reducible exact List.nil_sublist _ | with_reducible exact List.Sublist.refl _ | (with_reducible refine List.Sublist.cons₂ _ ?_; walk_at "subl") | (with_reducible refine List.Sublist.cons _ ?_; walk_at "subl"))
local macro_rules | `(tactic| walk_at "k") => `(tactic| try dsimp only [L2.cxOf, L2.Cx.nox, L2.Cx.wish, L2.Cx.blk])
local macro_rules | `(tactic| walk_at "ask") => `(tactic| fail)
local macro_rules | `(tactic| walk_at "mem") => `(tactic| first | with_reducible exact List.mem_cons_self | (with_reducible apply List.mem_cons_of_mem; walk_at "mem"))
local macro_rules | `(tactic| walk_at "put") => `(tactic| first | with_reducible exact Lt.Put.head | (with_reducible apply Lt.Put.tail; walk_at "put"))
local macro_rules | `(tactic| walk_at "own") => `(tactic| first | exact Or.inr (by assumption) | exact Or.inl (by walk_at "mem"))
local macro_rules | `(tactic| walk_at "cnd") => `(tactic| first | assumption | decide | ((try dsimp only); omega) | (unfold CMul; omega) | (unfold CDiv; omega) | (unfold CPow; omega) | exact Or.inr (by decide) | exact Or.inl (by decide) | exact wide_div (b := 128) (by omega) (by omega) (by decide) (by decide))
local macro_rules | `(tactic| walk_at "at") => `(tactic| first | exact rfl | assumption)
local macro_rules | `(tactic| walk_at "kit") => `(tactic| first | assumption | exact kit_int_int | exact kit_int_bool | exact kit_int_str | exact kit_int_list | exact kit_int_tuple | exact kit_int_dict | exact kit_bool_int | exact kit_bool_bool | exact kit_bool_str | exact kit_bool_list | exact kit_bool_tuple | exact kit_bool_dict | exact kit_str_int | exact kit_str_bool | exact kit_str_str | exact kit_str_list | exact kit_str_tuple | exact kit_str_dict | exact kit_list_int | exact kit_list_bool | exact kit_list_str | exact kit_list_list | exact kit_list_tuple | exact kit_list_dict | exact kit_tuple_int | exact kit_tuple_bool | exact kit_tuple_str | exact kit_tuple_list | exact kit_tuple_tuple | exact kit_tuple_dict | exact kit_dict_int | exact kit_dict_bool | exact kit_dict_str | exact kit_dict_list | exact kit_dict_tuple | exact kit_dict_dict | exact kit_NoneType_int | exact kit_NoneType_bool | exact kit_NoneType_str | exact kit_NoneType_list | exact kit_NoneType_tuple | exact kit_NoneType_dict)
local macro_rules | `(tactic| walk_at "kitA") => `(tactic| first | assumption | exact kitA_lt_int | exact kitA_lt_bool | exact kitA_lt_str | exact kitA_lt_list | exact kitA_lt_tuple | exact kitA_lt_dict | exact kitA_lt_NoneType | exact kitA_bilt_int | exact kitA_bilt_bool | exact kitA_bilt_str | exact kitA_bilt_list | exact kitA_bilt_tuple | exact kitA_bilt_dict | exact kitA_bilt_NoneType)
local macro_rules | `(tactic| walk_at "ty") => `(tactic| first | exact .base (.int _) | exact .base (.bl _) | exact .base (.str _) | exact .base .non | exact .base (.lst (Stt.get (by assumption) (by walk_at "mem"))) | exact .base (.tup (Stt.get (by assumption) (by walk_at "mem"))) | exact .base (.dK (Stt.get (by assumption) (by walk_at "mem"))) | exact sqL_ty (Stt.upL (by assumption) (by assumption)) | exact sqT_ty (Stt.upT (by assumption) (by assumption)) | exact InsT.ty (by assumption) (Stt.get (by assumption) (by walk_at "mem")) | assumption)
local macro_rules | `(tactic| walk_at "rd1") => `(tactic| first
  | with_reducible refine' Rd.seq ?_
  | with_reducible refine' Rd.asg ?_
  | ((with_reducible refine' Rd.var ?vh ?_); (case vh => exact rfl))
  | with_reducible refine' Rd.con ?_
  | with_reducible refine' Rd.op ?_
  | with_reducible refine' Rd.i0 ?_
  | ((with_reducible refine' Rd.ic ?vh ?_); (case vh => walk_at "cnd"))
  | ((with_reducible refine' Rd.ixL ?v1 ?v2 ?v3 ?_); (case v1 => assumption); (case v2 => walk_at "mem"); (case v3 => walk_at "at"))
  | ((with_reducible refine' Rd.ixT ?v1 ?v2 ?v3 ?_); (case v1 => assumption); (case v2 => walk_at "mem"); (case v3 => walk_at "at"))
  | ((with_reducible refine' Rd.ixD2 ?v1 ?v2 ?_); (case v1 => assumption); (case v2 => walk_at "mem"); intro _)
  | ((with_reducible refine' Rd.ixD3 ?v1 ?v2 ?_); (case v1 => assumption); (case v2 => walk_at "mem"); intro _)
  | ((with_reducible refine' Rd.setD2 ?v1 ?v2 ?v3 ?v4 ?_); (case v1 => assumption); (case v2 => walk_at "mem"); (case v3 => walk_at "put"); (case v4 => walk_at "own"); intro _ _)
  | ((with_reducible refine' Rd.isi ?v1 ?v2 ?v3 ?_); (case v1 => walk_at "ty"); (case v2 => first | exact ClsV.ty _ | exact ClsV.own _); (case v3 => walk_at "kit"))
  | with_reducible refine' Rd.fld ?_
  | ((with_reducible refine' Rd.fldI ?v1 ?v2 ?v3 ?v4 ?v5 ?_); (case v1 => assumption); (case v2 => walk_at "mem"); (case v3 => assumption); (case v4 => assumption); (case v5 => walk_at "at"))
  | with_reducible refine' Rd.sfld ?_
  | ((with_reducible refine' Rd.sfldI ?v1 ?v2 ?v3 ?v4 ?v5 ?v6 ?v7 ?_); (case v1 => assumption); (case v2 => walk_at "mem"); (case v3 => assumption); (case v4 => assumption); (case v5 => first | decide | (refine Nat.lt_of_le_of_lt (putF_len _ _ _) ?_; decide)); (case v6 => walk_at "put"); (case v7 => walk_at "own"); intro _ _)
  | with_reducible refine' Rd.make ?_
  | with_reducible refine' Rd.gcd ?_
  | with_reducible refine' Rd.cons ?_
  | with_reducible refine' Rd.nil ?_
  | with_reducible refine' Rd.cb ?_
  | with_reducible refine' Rd.intI ?_
  | with_reducible refine' Rd.absI ?_
  | ((with_reducible refine' Rd.lenL ?v1 ?v2 ?_); (case v1 => assumption); (case v2 => walk_at "mem"))
  | ((with_reducible refine' Rd.lenT ?v1 ?v2 ?_); (case v1 => assumption); (case v2 => walk_at "mem"))
  | ((with_reducible refine' Rd.lenBL ?v1 ?v2 ?v3 ?_); (case v1 => assumption); (case v2 => assumption); (case v3 => first | exact List.not_mem_nil | assumption))
  | ((with_reducible refine' Rd.lenBT ?v1 ?v2 ?v3 ?_); (case v1 => assumption); (case v2 => assumption); (case v3 => first | exact List.not_mem_nil | assumption))
  | ((with_reducible refine' Rd.ixBL ?v1 ?v2 ?v4 ?v3 ?_); (case v1 => assumption); (case v2 => assumption); (case v4 => first | exact List.not_mem_nil | assumption); (case v3 => walk_at "at"))
  | ((with_reducible refine' Rd.ixBT ?v1 ?v2 ?v4 ?v3 ?_); (case v1 => assumption); (case v2 => assumption); (case v4 => first | exact List.not_mem_nil | assumption); (case v3 => walk_at "at"))
  | ((with_reducible refine' Rd.brI ?vh ?_); (case vh => with_reducible exact rfl))
  | with_reducible refine' Rd.ifS ?_
  | with_reducible refine' Rd.test ?_
  | with_reducible refine' Rd.tbl ?_
  | with_reducible refine' Rd.bl ?_
  | with_reducible refine' Rd.brTT ?_
  | with_reducible refine' Rd.brFF ?_
  | with_reducible refine' Rd.brN ?_
  | ((with_reducible refine' Rd.aug ?vh ?_); (case vh => exact rfl))
  | with_reducible refine' Rd.ipI ?_
  | with_reducible refine' Rd.blV ?_
  | with_reducible refine' Rd.notVL ?_
  | with_reducible refine' Rd.andT ?_
  | with_reducible refine' Rd.orT ?_
  | with_reducible refine' Rd.notT ?_
  | with_reducible refine' Rd.andV ?_
  | with_reducible refine' Rd.orV ?_
  | with_reducible refine' Rd.notV ?_
  | with_reducible refine' Rd.ifE ?_
  | ((with_reducible refine' Rd.eqS ?vh ?_); (case vh => exact rfl))
  | ((with_reducible refine' Rd.neS ?vh ?_); (case vh => exact rfl))
  | with_reducible refine' Rd.par ?_
  | with_reducible refine' Rd.parL ?_
  | with_reducible refine' Rd.un ?_
  | with_reducible refine' Rd.u1 ?_
  | with_reducible refine' Rd.sub ?_
  | ((with_reducible refine' Rd.setL ?v1 ?v2 ?v3 ?v4 ?v5 ?_); (case v1 => assumption); (case v2 => walk_at "mem"); (case v3 => walk_at "at"); (case v4 => walk_at "put"); (case v5 => walk_at "own"); intro _ _)
  | with_reducible refine' Rd.tup ?_
  | with_reducible refine' Rd.lst ?_
  | ((with_reducible refine' Rd.tupN ?v1 ?v2 ?_); (case v1 => assumption); (case v2 => simp only [List.length_cons, List.length_nil]; decide); intro _ _ _ _)
  | ((with_reducible refine' Rd.lstN ?v1 ?v2 ?_); (case v1 => assumption); (case v2 => simp only [List.length_cons, List.length_nil]; decide); intro _ _ _ _)
  | with_reducible refine' Rd.ret ?_
  | with_reducible refine' Rd.drop ?_
  | with_reducible refine' Rd.retN ?_
  | with_reducible refine' Rd.next ?_
  | with_reducible refine' Rd.brk ?_
  | with_reducible refine' Rd.cont ?_
  | with_reducible refine' Rd.call ?_
  | walk_at "ask"
  | with_reducible refine' Rd.bm ?_
  | ((with_reducible refine' Rd.bmL ?v1 ?v2 ?_); (case v1 => assumption); (case v2 => walk_at "mem"))
  | ((with_reducible refine' Rd.app ?v1 ?v2 ?v3 ?v4 ?v5 ?_); (case v1 => assumption); (case v2 => walk_at "mem"); (case v3 => simp only [List.length_cons, List.length_nil, List.length_append]; omega); (case v4 => walk_at "put"); (case v5 => walk_at "own"); intro _ _)
  | with_reducible refine' Rd.asgT ?_
  | ((with_reducible refine' Rd.gtup ?v1 ?v2 ?v3 ?_); (case v1 => assumption); (case v2 => walk_at "mem"); (case v3 => exact rfl))
  | with_reducible refine' Rd.gcons ?_
  | with_reducible refine' Rd.gname ?_
  | with_reducible refine' Rd.gnil ?_
  | with_reducible refine' Rd.sl ?_
  | with_reducible refine' Rd.noPart ?_
  | with_reducible refine' Rd.part ?_
  | with_reducible refine' Rd.prt ?_
  | with_reducible refine' Rd.isB ?_
  | ((with_reducible refine' Rd.wp ?vh ?_); (case vh => exact rfl))
  | with_reducible refine' Rd.makeK ?_
  | with_reducible refine' Rd.meth ?_
  | ((with_reducible refine' Rd.catL ?v1 ?v2 ?v3 ?v4 ?_); (case v1 => assumption); (case v2 => walk_at "mem"); (case v3 => walk_at "mem"); (case v4 => simp only [List.length_cons, List.length_nil, List.length_append]; omega); intro _ _ _ _)
  | with_reducible refine' Rd.dnew ?_
  | ((with_reducible refine' Rd.dnewL ?v1 ?_); (case v1 => assumption); intro _ _ _ _)
  | with_reducible refine' Rd.lc ?_
  | with_reducible refine' Rd.wZ ?_
  | with_reducible refine' Rd.tYesH ?_
  | with_reducible refine' Rd.fmt ?_
  | with_reducible refine' Rd.joined ?_
  | with_reducible refine' Rd.jsNil ?_
  | with_reducible refine' Rd.jsCons ?_
  | ((with_reducible refine' Rd.isiT ?v1 ?v2 ?v3 ?v4 ?v5 ?_); (case v1 => assumption); (case v2 => walk_at "mem"); (case v3 => walk_at "ty"); (case v4 => first | exact .cons (.ty _) (.cons (.ty _) .nil) | exact .cons (.ty _) (.cons (.ty _) (.cons (.ty _) (.cons (.ty _) .nil))) | exact .cons (.ty _) (.cons (.ty _) (.cons (.ty _) .nil))); (case v5 => walk_at "kitA"))
  | with_reducible refine' Rd.forS ?_
  | with_reducible refine' Rd.wEnT ?_
  | ((with_reducible refine' Rd.wEnTL ?v1 ?v2 ?_); (case v1 => assumption); (case v2 => walk_at "mem"))
  | with_reducible refine' Rd.wL ?_
  | ((with_reducible refine' Rd.wLL ?v1 ?v2 ?_); (case v1 => assumption); (case v2 => walk_at "mem"))
  | with_reducible refine' Rd.wT ?_
  | ((with_reducible refine' Rd.wTL ?v1 ?v2 ?_); (case v1 => assumption); (case v2 => walk_at "mem"))
  | with_reducible refine' Rd.wR1 ?_
  | ((with_reducible refine' Rd.wR1L ?v1 ?v2 ?_); (case v1 => omega); (case v2 => omega))
  | with_reducible refine' Rd.wR2 ?_
  | ((with_reducible refine' Rd.wR2L ?v1 ?_); (case v1 => omega)))
local macro_rules | `(tactic| walk_at "rd") => `(tactic| repeat (walk_at "rd1"))

section
variable {P : Program} {w : World} {K : PySem.W.Frag} {mg : Str → Option Value} {base : Heap}
/-! ### the draws -/
def spFresh (K : PySem.W.Frag) : Sp := fun vs H Q _ => ∃ (a : Addr) (ns : List Int), vs = [.ref a] ∧ SqL K H a (ns.map V.int) ∧ ns.length ≤ 63 ∧ ∀ st c ms H', H st = none → Stt H [] (dled st c ms) H' → ms.length ≤ 63 → Q (.ref st) H'
theorem ok_l_fresh (T : Txt K mg) : FnOk P w K mg base CX0 1 (He.fAd K ("_law_fresh", none)) T.fd_l_fresh ["_law_script"] (spFresh K) := by
  refine T.F_l_fresh.ok sc_l_fresh (fun vs H Q E h => ?_) (fun cdv A outer s H vs Q E hr h => ?_)
  · obtain ⟨a, ns, rfl, _⟩ := h
    rfl
  · obtain ⟨a, ns, rfl, hS, hl, k⟩ := h
    refine ⟨_, PSs.nox (pss_one (ps_ret (pe_lst (pa_cons (pe_slice sl_list (pv 0) po_none (po_some pe_int)) (pa_cons pe_int (pa_cons pe_int (pa_cons pe_bl pa_nil))))))), ?_⟩
    walk_at "k"
    have s0 : Stt H [] [] H := Stt.nil
    walk_at "rd"
    refine ⟨a, _, rfl, hS, fun p hp => ?_⟩
    have ec : cutV (ns.map V.int) none (some 63) = (ns.take 63).map V.int := by
      unfold cutV
      simp [HT.sIx]
    rw [ec]
    have s1 := s0.new hp (.lst ((ns.take 63).map V.int))
    generalize upd H p (HO.lst ((ns.take 63).map V.int)) = H1 at s1 ⊢
    walk_at "rd"
    refine k _ p (ns.take 63) _ (by assumption) (Stt.re (f := DrS p) (by assumption) .head ⟨_, Stt.get (by assumption) (by walk_at "mem"), 0, 0, false, rfl⟩) ?_
    rw [List.length_take]
    omega
def spFill : Sp := fun vs H Q _ => ∃ (st c : Addr) (ns : List Int), vs = [.ref st] ∧ Stt H [st] (dled st c ns) H ∧ ns.length ≤ 63 ∧ ∀ H', Stt H [st] (dled st c ns) H' → Q .non H'
theorem ok_l_fill (T : Txt K mg) : FnOk P w K mg base CX0 1 (He.fAd K ("_law_fill", none)) T.fd_l_fill ["_law_state"] spFill := by
  refine T.F_l_fill.ok sc_l_fill (fun vs H Q E h => ?_) (fun cdv A outer s H vs Q E hr h => ?_)
  · obtain ⟨st, c, ns, rfl, _⟩ := h
    rfl
  · obtain ⟨st, c, ns, rfl, s0, hl, k⟩ := h
    refine ⟨_, PSs.nox (pss_cons (ps_par (i := 1) (j := 2) (by rfl) sc_l_fill.nd rfl rfl (by decide) rfl rfl (pa_cons (pe_ix ix_list (pv 0) pe_int (fun _ _ => rfl)) (pa_cons (pe_ix ix_list (pv 0) pe_int (fun _ _ => rfl)) pa_nil)) (by rfl))
  (pss_cons (ps_asg (pe_op op_add (pe_op op_mul pe_int (pv 2)) pe_int) (pg_name (i := 3) sc_l_fill.nd rfl (by first | exact Or.inl rfl | exact Or.inr rfl)))
  (C8.pss_cut (ps_if (pt_cmpR op_gt (pe_callB call_lenQ (by rfl) T.n_len PySem.boot_len (pa_cons (pv 1) pa_nil)) pe_int (nomark _)) (pss_one (ps_asg (pe_op op_add (pe_op op_mul pe_int (pe_op op_fdiv (pv 2) (pe_callB call_lenQ (by rfl) T.n_len PySem.boot_len (pa_cons (pv 1) pa_nil)))) (pe_ix ix_list (pv 1) (pe_op op_mod (pe_callTy call_intQ (by rfl) T.n_int (by decide +kernel) (pa_cons (pv 2) pa_nil)) (pe_callB call_lenQ (by rfl) T.n_len PySem.boot_len (pa_cons (pv 1) pa_nil))) (fun _ _ => rfl))) (pg_name (i := 3) sc_l_fill.nd rfl (by first | exact Or.inl rfl | exact Or.inr rfl))))
   pss_nil)
  (pss_cons (ps_asg (pe_op op_add (pv 2) pe_int) (pg_sub (pv 0) pe_int set_list))
  (C8.pss_cut (ps_asg (pe_or (pe_cmpR op_ge (pv 2) (pe_callB call_lenQ (by rfl) T.n_len PySem.boot_len (pa_cons (pv 1) pa_nil)) (nomark _)) (pe_one (pe_cmpR op_lt (pv 3) (pe_op op_pow pe_int pe_int) (nomark _)))) (pg_sub (pv 0) pe_int set_list))
  (pss_cons (ps_asg (pe_op op_sub (pv 3) (pe_op op_pow pe_int pe_int)) (pg_sub (pv 0) pe_int set_list))
  (pss_one (ps_if (pt_val (pe_ix ix_list (pv 0) pe_int (fun _ _ => rfl))) (pss_cons (ps_asg pe_int (pg_sub (pv 0) pe_int set_list))
  (pss_one (ps_for PassesOwn.never rfl (pi_enumT (by rfl) T.n_enumerate (pa_cons (pe_tup (pa_cons pe_int (pa_cons pe_int (pa_cons pe_int (pa_cons pe_int (pa_cons pe_int pa_nil)))))) pa_nil)) (pg_tup (by rfl) (pgs_cons (pg_name (i := 4) sc_l_fill.nd rfl (by first | exact Or.inl rfl | exact Or.inr rfl)) (pgs_cons (pg_name (i := 5) sc_l_fill.nd rfl (by first | exact Or.inl rfl | exact Or.inr rfl)) pgs_nil)))
   (pss_cons (ps_asg (pe_op op_mod (pe_callTy call_intQ (by rfl) T.n_int (by decide +kernel) (pa_cons (pe_op op_mul (pe_op op_add (pe_op op_add (pv 3) (pe_op op_mul (pe_op op_mul pe_int (pv 4)) (pv 4))) (pe_op op_mul pe_int (pv 4))) (pe_op op_add pe_int (pe_op op_mul pe_int (pv 4)))) pa_nil)) (pv 5)) (pg_name (i := 6) sc_l_fill.nd rfl (by first | exact Or.inl rfl | exact Or.inr rfl)))
  (pss_one (ps_asg (pe_op op_add (pe_op op_mul (pe_ix ix_list (pv 0) pe_int (fun _ _ => rfl)) (pv 5)) (pe_op op_mod (pe_callTy call_intQ (by rfl) T.n_int (by decide +kernel) (pa_cons (pe_op op_pow (pv 6) pe_int) pa_nil)) (pv 5))) (pg_sub (pv 0) pe_int set_list)))))))
   pss_nil)))))))), ?_⟩
    walk_at "k"
    obtain ⟨o, h1, nth, val, fl, rfl⟩ := s0.pick (a := st) (f := DrS c) (by walk_at "mem")
    have s1 : Stt H [st] [(st, Is (.lst [.ref c, .int nth, .int val, .bl fl])), (c, Is (.lst (ns.map V.int)))] H := s0.re .head ⟨_, h1, rfl⟩
    have fin : ∀ (H' : Hp) (a b : Int) (d : Bool), Stt H [st] [(st, Is (.lst [.ref c, .int a, .int b, .bl d])), (c, Is (.lst (ns.map V.int)))] H' → Q .non H' := fun H' a b d q2 =>
      k H' (q2.re .head ⟨_, q2.get (by walk_at "mem"), a, b, d, rfl⟩)
    have hlen : (((ns.map V.int).length : Nat) : Int) = (ns.length : Int) := by rw [List.length_map]
    walk_at "rd"
    refine Rd.cut (fun σ' H' => H = H' ∧ ∃ z : Int, σ' = [some (.ref st), some (.ref c), some (.int nth), some (.int z), none, none, none]) ?_ ?_
    · walk_at "rd"
      refine Rd.brD (fun c1 => ?_) (fun c1 => ?_)
      · have hp : (0 : Int) < (((ns.map V.int).length : Nat) : Int) := c1
        obtain ⟨z, hz⟩ : ∃ z, atI (ns.map V.int) (nth % (((ns.map V.int).length : Nat) : Int)) = some (V.int z) := by
          have b0 := Int.emod_nonneg nth (Int.ne_of_gt hp)
          have b1 := Int.emod_lt_of_pos nth hp
          obtain ⟨j, hj⟩ := Int.eq_ofNat_of_zero_le b0
          have hj2 : j < ns.length := by omega
          refine ⟨ns[j], ?_⟩
          rw [hj]
          exact atI_nat (by simp [hj2])
        walk_at "rd"
        exact ⟨rfl, _, rfl⟩
      · walk_at "rd"
        exact ⟨rfl, _, rfl⟩
    · rintro σ' H' ⟨rfl, z, rfl⟩
      walk_at "rd"
      refine Rd.cut (fun σ' H' => ∃ d : Bool, σ' = [some (.ref st), some (.ref c), some (.int nth), some (.int z), none, none, none] ∧ Stt H [st] [(st, Is (.lst [.ref c, .int (nth + 1), .int val, .bl d])), (c, Is (.lst (ns.map V.int)))] H') ?_ ?_
      · walk_at "rd"
        refine Rd.brD (fun c1 => ?_) (fun c1 => ?_)
        · walk_at "rd"
          exact ⟨_, rfl, by assumption⟩
        · walk_at "rd"
          exact ⟨_, rfl, by assumption⟩
      · rintro σ' H' ⟨d, rfl, s3⟩
        walk_at "rd"
        refine Rd.br (fun c1 => ?_) (fun c1 => ?_)
        · walk_at "rd"
          have hpr : ∀ x ∈ ([.int 2147483647, .int 2147483629, .int 2147483587, .int 2147483579, .int 2147483563] : List V), ∃ z : Int, x = .int z ∧ 0 < z ∧ z < 2147483648 := by
            intro x hx
            simp only [List.mem_cons, List.not_mem_nil, or_false] at hx
            rcases hx with rfl | rfl | rfl | rfl | rfl <;> exact ⟨_, rfl, by decide, by decide⟩
          rename_i p _ _ _
          refine Rd.loop (walk_enumT (xs := [.int 2147483647, .int 2147483629, .int 2147483587, .int 2147483579, .int 2147483563])) (fun i σ H' => ∃ (v4 v5 v6 : Option V) (b : Int), σ = [some (.ref st), some (.ref c), some (.int nth), some (.int z), v4, v5, v6] ∧
            Stt H [st] [(p, Is (.tup [.int 2147483647, .int 2147483629, .int 2147483587, .int 2147483579, .int 2147483563])), (st, Is (.lst [.ref c, .int (nth + 1), .int b, .bl d])), (c, Is (.lst (ns.map V.int)))] H') ⟨_, _, _, _, rfl, by assumption⟩ (fun i σ H' _ hP => ?_) ?_ ?_
          · obtain ⟨_, _, _, _, _, s4⟩ := hP
            exact s4.sqT (by walk_at "mem")
          · rintro i x σ H' H2 hi ⟨v4, v5, v6, b, rfl, s4⟩ ⟨p, x1, x2, rfl, hp, rfl, e1, e2⟩
            cases e1
            obtain ⟨pr, rfl, hp1, hp2⟩ := hpr x2 (List.mem_of_getElem? e2)
            have hi5 : i < 5 := hi
            have s5 := s4.new hp (.tup [.int (i : Int), .int pr])
            have b2 := Int.emod_nonneg ((z + 10007 * (i : Int) * (i : Int) + 101 * (i : Int)) * (48271 + 2 * (i : Int))) (show pr ≠ 0 by omega)
            have b3 := Int.emod_lt_of_pos ((z + 10007 * (i : Int) * (i : Int) + 101 * (i : Int)) * (48271 + 2 * (i : Int))) hp1
            walk_at "rd"
            exact ⟨_, _, _, _, rfl, Stt.sub (by assumption) (List.Sublist.cons _ (List.Sublist.refl _))⟩
          · rintro σ H' ⟨v4, v5, v6, b, rfl, s4⟩
            walk_at "rd"
            exact fin _ _ _ _ (s4.sub (List.Sublist.cons _ (List.Sublist.refl _)))
        · walk_at "rd"
          exact fin _ _ _ _ (by assumption)
/-- a call of a draw asks -/
def spTake : Sp := fun vs H Q _ => ∃ (st c : Addr) (ns : List Int) (m : Int), vs = [.ref st, .int m] ∧ Stt H [st] (dled st c ns) H ∧ ns.length ≤ 63 ∧ 0 < m ∧ m < 2 ^ 100 ∧ ∀ d H', 0 ≤ d → d < m → Stt H [st] (dled st c ns) H' → Q (.int d) H'
theorem fill_ask {H0 H : Hp} {S : List Addr} {l : Led} {st c : Addr} {ns : List Int} {Q : VK} {E : XK} (s : Stt H0 S l H) (m1 : (st, DrS c) ∈ l) (m2 : (c, Is (.lst (ns.map V.int))) ∈ l) (hn : ns.length ≤ 63) (hs : st ∈ S ∨ H0 st = none) (k : ∀ H', Stt H0 S l H' → Q .non H') : spFill ([.ref st] ++ []) H Q E :=
  ⟨st, c, ns, rfl, s.drawn m1 m2, hn, fun H' q => k H' (s.after1 m1 q.keep hs (q.pick (by walk_at "mem")))⟩
local macro_rules | `(tactic| walk_at "ask") => `(tactic| ((with_reducible refine' fill_ask ?v1 ?v2 ?v3 ?v4 ?v5 ?_); (case v1 => assumption); (case v2 => walk_at "mem"); (case v3 => walk_at "mem"); (case v4 => assumption); (case v5 => walk_at "own"); intro _ _))
theorem ok_l_take (T : Txt K mg) : FnOk P w K mg base CX0 2 (He.fAd K ("_law_take", none)) T.fd_l_take ["_law_state", "_law_many"] spTake := by
  refine T.F_l_take.ok sc_l_take (fun vs H Q E h => ?_) (fun cdv A outer s H vs Q E hr h => ?_)
  · obtain ⟨st, c, ns, m, rfl, _⟩ := h
    rfl
  · obtain ⟨st, c, ns, m, rfl, s0, hl, h0, h1, k⟩ := h
    refine ⟨_, PSs.nox (pss_cons (ps_asg pe_int (pg_name (i := 2) sc_l_take.nd rfl (by first | exact Or.inl rfl | exact Or.inr rfl)))
  (pss_cons (ps_while PassesOwn.never (PW.pt (pw_and (pt_cmpR op_lt (pv 2) pe_int (nomark _)) (pw_and1 (PW.pt (pw_or (pt_cmpR op_eq (pe_ix ix_list (pv 0) pe_int (fun _ _ => rfl)) pe_int (nomark _)) (pw_or1 (PW.pt (pw_and (pt_val (pe_ix ix_list (pv 0) pe_int (fun _ _ => rfl))) (pw_and1 (pt_cmpR op_lt (pe_ix ix_list (pv 0) pe_int (fun _ _ => rfl)) (pe_op op_mul (pv 1) pe_int) (nomark _))))))))))) (pss_cons (ps_expr (pe_call (ok_l_fill T) (hr.mono (by decide)) rfl T.g_l_fill T.F_l_fill.kp T.b_l_fill .nil pass0 (pa_cons (pv 0) pa_nil)))
  (pss_cons (ps_aug (i := 2) sc_l_take.nd rfl (by first | exact Or.inl rfl | exact Or.inr rfl) pe_int ip_add)
  (pss_one (ps_if (PW.pt (pw_and (pt_val (pe_ix ix_list (pv 0) pe_int (fun _ _ => rfl))) (pw_and1 (pt_cmpR op_lt (pe_ix ix_list (pv 0) pe_int (fun _ _ => rfl)) (pe_op op_mul (pv 1) pe_int) (nomark _))))) (pss_one (ps_asg (pe_op op_add (pe_ix ix_list (pv 0) pe_int (fun _ _ => rfl)) (pe_op op_mul (pe_op op_mul (pv 1) pe_int) (pe_op op_add pe_int (pe_op op_mod (pe_callTy call_intQ (by rfl) T.n_int (by decide +kernel) (pa_cons (pe_ix ix_list (pv 0) pe_int (fun _ _ => rfl)) pa_nil)) pe_int)))) (pg_sub (pv 0) pe_int set_list)))
   pss_nil)))))
  (pss_cons (ps_asg (pe_op op_mod (pe_callTy call_intQ (by rfl) T.n_int (by decide +kernel) (pa_cons (pe_ix ix_list (pv 0) pe_int (fun _ _ => rfl)) pa_nil)) (pv 1)) (pg_name (i := 3) sc_l_take.nd rfl (by first | exact Or.inl rfl | exact Or.inr rfl)))
  (pss_cons (ps_asg (pe_op op_fdivW (pe_ix ix_list (pv 0) pe_int (fun _ _ => rfl)) (pv 1)) (pg_sub (pv 0) pe_int set_list))
  (pss_one (ps_ret (pv 3))))))), ?_⟩
    walk_at "k"
    walk_at "rd"
    refine Rd.whileS (fun n σ' H' => ∃ (z : Int), σ' = [some (.ref st), some (.int m), some (.int z), none] ∧ 0 ≤ z ∧ n = (64 - z).toNat ∧ Stt H [st] (dled st c ns) H') 64 ⟨0, rfl, by decide, rfl, s0⟩ ?_
    rintro n σ' H' ⟨z, rfl, hz, rfl, s1⟩
    have body : ∀ H2, z < 64 → Stt H [st] (dled st c ns) H2 → ∃ N : L2.St → Hp → Prop, (∀ σ' H', N σ' H' → ∃ m', m' < (64 - z).toNat ∧ ∃ (z : Int), σ' = [some (.ref st), some (.int m), some (.int z), none] ∧ 0 ≤ z ∧ m' = (64 - z).toNat ∧ Stt H [st] (dled st c ns) H') ∧
        ∀ H2, Stt H [st] (dled st c ns) H2 → N [some (.ref st), some (.int m), some (.int (z + 1)), none] H2 := fun H2 hz2 _ =>
      ⟨fun σ' H' => σ' = [some (.ref st), some (.int m), some (.int (z + 1)), none] ∧ Stt H [st] (dled st c ns) H', fun σ' H' h => ⟨_, by omega, z + 1, h.1, by omega, rfl, h.2⟩, fun H2 s2 => ⟨rfl, s2⟩⟩
    have fin : ∀ (v : Int) (H5 : Hp), Stt H [st] (dled st c ns) H5 → Q (.int (v % m)) H5 := fun v H5 s5 => k _ _ (Int.emod_nonneg v (show m ≠ 0 by omega)) (Int.emod_lt_of_pos v h0) s5
    walk_at "rd"
    refine Rd.brD (fun c1 => ?_) (fun c1 => ?_)
    · obtain ⟨N, n1, n2⟩ := body H' c1 s1
      walk_at "rd"
      refine Rd.brD (fun c2 => ?_) (fun c2 => ?_)
      · walk_at "rd"
        refine ⟨N, n1, ?_⟩; walk_at "rd"; refine Rd.br (fun c3 => ?_) (fun c3 => ?_) <;> subst c3 <;> walk_at "rd"; (refine Rd.brD (fun c4 => ?_) (fun c4 => ?_) <;> walk_at "rd" <;> exact n2 _ (by assumption)); exact n2 _ (by assumption)
      · walk_at "rd"
        refine Rd.br (fun c3 => ?_) (fun c3 => ?_)
        · subst c3
          walk_at "rd"
          refine Rd.brD (fun c4 => ?_) (fun c4 => ?_)
          · walk_at "rd"
            refine ⟨N, n1, ?_⟩; walk_at "rd"; refine Rd.br (fun c3 => ?_) (fun c3 => ?_) <;> subst c3 <;> walk_at "rd"; (refine Rd.brD (fun c4 => ?_) (fun c4 => ?_) <;> walk_at "rd" <;> exact n2 _ (by assumption)); exact n2 _ (by assumption)
          · walk_at "rd"
            exact fin _ _ (by assumption)
        · subst c3
          walk_at "rd"
          exact fin _ _ (by assumption)
    · walk_at "rd"
      exact fin _ _ (by assumption)
end

end
section
local macro_rules | `(tactic| walk_at "subl") => `(tactic| first | with_reducible exact List.nil_sublist _ | with_reducible exact List.Sublist.refl _ | (with_reducible refine List.Sublist.cons₂ _ ?_; walk_at "subl") | (with_reducible refine List.Sublist.cons _ ?_; walk_at "subl"))
local macro_rules | `(tactic| walk_at "k") => `(tactic| try dsimp only [L2.cxOf, L2.Cx.nox, L2.Cx.wish, L2.Cx.blk])
local macro_rules | `(tactic| walk_at "ask") => `(tactic| fail)
local macro_rules | `(tactic| walk_at "mem") => `(tactic| first | with_reducible exact List.mem_cons_self | (with_reducible apply List.mem_cons_of_mem; walk_at "mem"))
local macro_rules | `(tactic| walk_at "put") => `(tactic| first | with_reducible exact Lt.Put.head | (with_reducible apply Lt.Put.tail; walk_at "put"))
local macro_rules | `(tactic| walk_at "own") => `(tactic| first | exact Or.inr (by assumption) | exact Or.inl (by walk_at "mem"))
local macro_rules | `(tactic| walk_at "cnd") => `(tactic| first | assumption | decide | ((try dsimp only); omega) | (unfold CMul; omega) | (unfold CDiv; omega) | (unfold CPow; omega) | exact Or.inr (by decide) | exact Or.inl (by decide) | exact wide_div (b := 128) (by omega) (by omega) (by decide) (by decide))
local macro_rules | `(tactic| walk_at "at") => `(tactic| first | exact rfl | assumption)
local macro_rules | `(tactic| walk_at "kit") => `(tactic| first | assumption | exact kit_int_int | exact kit_int_bool | exact kit_int_str | exact kit_int_list | exact kit_int_tuple | exact kit_int_dict | exact kit_bool_int | exact kit_bool_bool | exact kit_bool_str | exact kit_bool_list | exact kit_bool_tuple | exact kit_bool_dict | exact kit_str_int | exact kit_str_bool | exact kit_str_str | exact kit_str_list | exact kit_str_tuple | exact kit_str_dict | exact kit_list_int | exact kit_list_bool | exact kit_list_str | exact kit_list_list | exact kit_list_tuple | exact kit_list_dict | exact kit_tuple_int | exact kit_tuple_bool | exact kit_tuple_str | exact kit_tuple_list | exact kit_tuple_tuple | exact kit_tuple_dict | exact kit_dict_int | exact kit_dict_bool | exact kit_dict_str | exact kit_dict_list | exact kit_dict_tuple | exact kit_dict_dict | exact kit_NoneType_int | exact kit_NoneType_bool | exact kit_NoneType_str | exact kit_NoneType_list | exact kit_NoneType_tuple | exact kit_NoneType_dict)
local macro_rules | `(tactic| walk_at "kitA") => `(tactic| first | assumption | exact kitA_lt_int | exact kitA_lt_bool | exact kitA_lt_str | exact kitA_lt_list | exact kitA_lt_tuple | exact kitA_lt_dict | exact kitA_lt_NoneType | exact kitA_bilt_int | exact kitA_bilt_bool | exact kitA_bilt_str | exact kitA_bilt_list | exact kitA_bilt_tuple | exact kitA_bilt_dict | exact kitA_bilt_NoneType)
local macro_rules | `(tactic| walk_at "ty") => `(tactic| first | exact .base (.int _) | exact .base (.bl _) | exact .base (.str _) | exact .base .non | exact .base (.lst (Stt.get (by assumption) (by walk_at "mem"))) | exact .base (.tup (Stt.get (by assumption) (by walk_at "mem"))) | exact .base (.dK (Stt.get (by assumption) (by walk_at "mem"))) | exact sqL_ty (Stt.upL (by assumption) (by assumption)) | exact sqT_ty (Stt.upT (by assumption) (by assumption)) | exact InsT.ty (by assumption) (Stt.get (by assumption) (by walk_at "mem")) | assumption)
local macro_rules | `(tactic| walk_at "rd1") => `(tactic| first
  | with_reducible refine' Rd.seq ?_
  | with_reducible refine' Rd.asg ?_
  | ((with_reducible refine' Rd.var ?vh ?_); (case vh => exact rfl))
  | with_reducible refine' Rd.con ?_
  | with_reducible refine' Rd.op ?_
  | with_reducible refine' Rd.i0 ?_
  | ((with_reducible refine' Rd.ic ?vh ?_); (case vh => walk_at "cnd"))
  | ((with_reducible refine' Rd.ixL ?v1 ?v2 ?v3 ?_); (case v1 => assumption); (case v2 => walk_at "mem"); (case v3 => walk_at "at"))
  | ((with_reducible refine' Rd.ixT ?v1 ?v2 ?v3 ?_); (case v1 => assumption); (case v2 => walk_at "mem"); (case v3 => walk_at "at"))
  | ((with_reducible refine' Rd.ixD2 ?v1 ?v2 ?_); (case v1 => assumption); (case v2 => walk_at "mem"); intro _)
  | ((with_reducible refine' Rd.ixD3 ?v1 ?v2 ?_); (case v1 => assumption); (case v2 => walk_at "mem"); intro _)
  | ((with_reducible refine' Rd.setD2 ?v1 ?v2 ?v3 ?v4 ?_); (case v1 => assumption); (case v2 => walk_at "mem"); (case v3 => walk_at "put"); (case v4 => walk_at "own"); intro _ _)
  | ((with_reducible refine' Rd.isi ?v1 ?v2 ?v3 ?_); (case v1 => walk_at "ty"); (case v2 => first | exact ClsV.ty _ | exact ClsV.own _); (case v3 => walk_at "kit"))
  | with_reducible refine' Rd.fld ?_
  | ((with_reducible refine' Rd.fldI ?v1 ?v2 ?v3 ?v4 ?v5 ?_); (case v1 => assumption); (case v2 => walk_at "mem"); (case v3 => assumption); (case v4 => assumption); (case v5 => walk_at "at"))
  | with_reducible refine' Rd.sfld ?_
  | ((with_reducible refine' Rd.sfldI ?v1 ?v2 ?v3 ?v4 ?v5 ?v6 ?v7 ?_); (case v1 => assumption); (case v2 => walk_at "mem"); (case v3 => assumption); (case v4 => assumption); (case v5 => first | decide | (refine Nat.lt_of_le_of_lt (putF_len _ _ _) ?_; decide)); (case v6 => walk_at "put"); (case v7 => walk_at "own"); intro _ _)
  | with_reducible refine' Rd.make ?_
  | with_reducible refine' Rd.gcd ?_
  | with_reducible refine' Rd.cons ?_
  | with_reducible refine' Rd.nil ?_
  | with_reducible refine' Rd.cb ?_
  | with_reducible refine' Rd.intI ?_
  | with_reducible refine' Rd.absI ?_
  | ((with_reducible refine' Rd.lenL ?v1 ?v2 ?_); (case v1 => assumption); (case v2 => walk_at "mem"))
  | ((with_reducible refine' Rd.lenT ?v1 ?v2 ?_); (case v1 => assumption); (case v2 => walk_at "mem"))
  | ((with_reducible refine' Rd.lenBL ?v1 ?v2 ?v3 ?_); (case v1 => assumption); (case v2 => assumption); (case v3 => first | exact List.not_mem_nil | assumption))
  | ((with_reducible refine' Rd.lenBT ?v1 ?v2 ?v3 ?_); (case v1 => assumption); (case v2 => assumption); (case v3 => first | exact List.not_mem_nil | assumption))
  | ((with_reducible refine' Rd.ixBL ?v1 ?v2 ?v4 ?v3 ?_); (case v1 => assumption); (case v2 => assumption); (case v4 => first | exact List.not_mem_nil | assumption); (case v3 => walk_at "at"))
  | ((with_reducible refine' Rd.ixBT ?v1 ?v2 ?v4 ?v3 ?_); (case v1 => assumption); (case v2 => assumption); (case v4 => first | exact List.not_mem_nil | assumption); (case v3 => walk_at "at"))
  | ((with_reducible refine' Rd.brI ?vh ?_); (case vh => with_reducible exact rfl))
  | with_reducible refine' Rd.ifS ?_
  | with_reducible refine' Rd.test ?_
  | with_reducible refine' Rd.tbl ?_
  | with_reducible refine' Rd.bl ?_
  | with_reducible refine' Rd.brTT ?_
  | with_reducible refine' Rd.brFF ?_
  | with_reducible refine' Rd.brN ?_
  | ((with_reducible refine' Rd.aug ?vh ?_); (case vh => exact rfl))
  | with_reducible refine' Rd.ipI ?_
  | with_reducible refine' Rd.blV ?_
  | with_reducible refine' Rd.notVL ?_
  | with_reducible refine' Rd.andT ?_
  | with_reducible refine' Rd.orT ?_
  | with_reducible refine' Rd.notT ?_
  | with_reducible refine' Rd.andV ?_
  | with_reducible refine' Rd.orV ?_
  | with_reducible refine' Rd.notV ?_
  | with_reducible refine' Rd.ifE ?_
  | ((with_reducible refine' Rd.eqS ?vh ?_); (case vh => exact rfl))
  | ((with_reducible refine' Rd.neS ?vh ?_); (case vh => exact rfl))
  | with_reducible refine' Rd.par ?_
  | with_reducible refine' Rd.parL ?_
  | with_reducible refine' Rd.un ?_
  | with_reducible refine' Rd.u1 ?_
  | with_reducible refine' Rd.sub ?_
  | ((with_reducible refine' Rd.setL ?v1 ?v2 ?v3 ?v4 ?v5 ?_); (case v1 => assumption); (case v2 => walk_at "mem"); (case v3 => walk_at "at"); (case v4 => walk_at "put"); (case v5 => walk_at "own"); intro _ _)
  | with_reducible refine' Rd.tup ?_
  | with_reducible refine' Rd.lst ?_
  | ((with_reducible refine' Rd.tupN ?v1 ?v2 ?_); (case v1 => assumption); (case v2 => simp only [List.length_cons, List.length_nil]; decide); intro _ _ _ _)
  | ((with_reducible refine' Rd.lstN ?v1 ?v2 ?_); (case v1 => assumption); (case v2 => simp only [List.length_cons, List.length_nil]; decide); intro _ _ _ _)
  | with_reducible refine' Rd.ret ?_
  | with_reducible refine' Rd.drop ?_
  | with_reducible refine' Rd.retN ?_
  | with_reducible refine' Rd.next ?_
  | with_reducible refine' Rd.brk ?_
  | with_reducible refine' Rd.cont ?_
  | with_reducible refine' Rd.call ?_
  | walk_at "ask"
  | with_reducible refine' Rd.bm ?_
  | ((with_reducible refine' Rd.bmL ?v1 ?v2 ?_); (case v1 => assumption); (case v2 => walk_at "mem"))
  | ((with_reducible refine' Rd.app ?v1 ?v2 ?v3 ?v4 ?v5 ?_); (case v1 => assumption); (case v2 => walk_at "mem"); (case v3 => simp only [List.length_cons, List.length_nil, List.length_append]; omega); (case v4 => walk_at "put"); (case v5 => walk_at "own"); intro _ _)
  | with_reducible refine' Rd.asgT ?_
  | ((with_reducible refine' Rd.gtup ?v1 ?v2 ?v3 ?_); (case v1 => assumption); (case v2 => walk_at "mem"); (case v3 => exact rfl))
  | with_reducible refine' Rd.gcons ?_
  | with_reducible refine' Rd.gname ?_
  | with_reducible refine' Rd.gnil ?_
  | with_reducible refine' Rd.sl ?_
  | with_reducible refine' Rd.noPart ?_
  | with_reducible refine' Rd.part ?_
  | with_reducible refine' Rd.prt ?_
  | with_reducible refine' Rd.isB ?_
  | ((with_reducible refine' Rd.wp ?vh ?_); (case vh => exact rfl))
  | with_reducible refine' Rd.makeK ?_
  | with_reducible refine' Rd.meth ?_
  | ((with_reducible refine' Rd.catL ?v1 ?v2 ?v3 ?v4 ?_); (case v1 => assumption); (case v2 => walk_at "mem"); (case v3 => walk_at "mem"); (case v4 => simp only [List.length_cons, List.length_nil, List.length_append]; omega); intro _ _ _ _)
  | with_reducible refine' Rd.dnew ?_
  | ((with_reducible refine' Rd.dnewL ?v1 ?_); (case v1 => assumption); intro _ _ _ _)
  | with_reducible refine' Rd.lc ?_
  | with_reducible refine' Rd.wZ ?_
  | with_reducible refine' Rd.tYesH ?_
  | with_reducible refine' Rd.fmt ?_
  | with_reducible refine' Rd.joined ?_
  | with_reducible refine' Rd.jsNil ?_
  | with_reducible refine' Rd.jsCons ?_
  | ((with_reducible refine' Rd.isiT ?v1 ?v2 ?v3 ?v4 ?v5 ?_); (case v1 => assumption); (case v2 => walk_at "mem"); (case v3 => walk_at "ty"); (case v4 => first | exact .cons (.ty _) (.cons (.ty _) .nil) | exact .cons (.ty _) (.cons (.ty _) (.cons (.ty _) (.cons (.ty _) .nil))) | exact .cons (.ty _) (.cons (.ty _) (.cons (.ty _) .nil))); (case v5 => walk_at "kitA"))
  | with_reducible refine' Rd.forS ?_
  | with_reducible refine' Rd.wEnT ?_
  | ((with_reducible refine' Rd.wEnTL ?v1 ?v2 ?_); (case v1 => assumption); (case v2 => walk_at "mem"))
  | with_reducible refine' Rd.wL ?_
  | ((with_reducible refine' Rd.wLL ?v1 ?v2 ?_); (case v1 => assumption); (case v2 => walk_at "mem"))
  | with_reducible refine' Rd.wT ?_
  | ((with_reducible refine' Rd.wTL ?v1 ?v2 ?_); (case v1 => assumption); (case v2 => walk_at "mem"))
  | with_reducible refine' Rd.wR1 ?_
  | ((with_reducible refine' Rd.wR1L ?v1 ?v2 ?_); (case v1 => omega); (case v2 => omega))
  | with_reducible refine' Rd.wR2 ?_
  | ((with_reducible refine' Rd.wR2L ?v1 ?_); (case v1 => omega)))
local macro_rules | `(tactic| walk_at "rd") => `(tactic| repeat (walk_at "rd1"))

set_option exponentiation.threshold 20000
section
variable {P : Program} {w : World} {K : PySem.W.Frag} {mg : Str → Option Value} {base : Heap}
theorem take_ask {H0 H : Hp} {S : List Addr} {l : Led} {st c : Addr} {ns : List Int} {m : Int} {Q : VK} {E : XK} (s : Stt H0 S l H) (m1 : (st, DrS c) ∈ l) (m2 : (c, Is (.lst (ns.map V.int))) ∈ l) (hn : ns.length ≤ 63) (hs : st ∈ S ∨ H0 st = none)
    (h0 : 0 < m ∧ m < 2 ^ 100) (k : ∀ d H', 0 ≤ d ∧ d < m → Stt H0 S l H' → Q (.int d) H') : spTake ([.ref st, .int m] ++ []) H Q E :=
  ⟨st, c, ns, m, rfl, s.drawn m1 m2, hn, h0.1, h0.2, fun d H' a b q => k d H' ⟨a, b⟩ (s.after1 m1 q.keep hs (q.pick (by walk_at "mem")))⟩
local macro_rules | `(tactic| walk_at "ask") => `(tactic| ((with_reducible refine' take_ask ?v1 ?v2 ?v3 ?v4 ?v5 ?v6 ?_); (case v1 => assumption); (case v2 => walk_at "mem"); (case v3 => walk_at "mem"); (case v4 => assumption); (case v5 => walk_at "own"); (case v6 => first | decide | omega); intro _ _ _ _))
/-- things[take(len(things))] -/
def spOne : Sp := fun vs H Q _ => ∃ (st c : Addr) (ns : List Int) (p : Addr) (xs : List V), vs = [.ref st, .ref p] ∧ Stt H [st] [(p, Is (.lst xs)), (st, DrS c), (c, Is (.lst (ns.map V.int)))] H ∧ ns.length ≤ 63 ∧ 0 < xs.length ∧ xs.length ≤ 1000 ∧
  ∀ v H', v ∈ xs → Stt H [st] [(p, Is (.lst xs)), (st, DrS c), (c, Is (.lst (ns.map V.int)))] H' → Q v H'
theorem ok_l_one (T : Txt K mg) : FnOk P w K mg base CX0 3 (He.fAd K ("_law_one", none)) T.fd_l_one ["_law_state", "_law_things"] spOne := by
  refine T.F_l_one.ok sc_l_one (fun vs H Q E h => ?_) (fun cdv A outer s H vs Q E hr h => ?_)
  · obtain ⟨st, c, ns, m, xs, rfl, _⟩ := h
    rfl
  · obtain ⟨st, c, ns, p, xs, rfl, s0, hl, h0, h1, k⟩ := h
    refine ⟨_, PSs.nox (pss_one (ps_ret (pe_ix ix_list (pv 1) (pe_call (ok_l_take T) (hr.mono (by decide)) rfl T.g_l_take T.F_l_take.kp T.b_l_take .nil pass0 (pa_cons (pv 0) (pa_cons (pe_callB call_lenQ (by rfl) T.n_len PySem.boot_len (pa_cons (pv 1) pa_nil)) pa_nil))) (fun _ _ => rfl)))), ?_⟩
    walk_at "k"
    walk_at "rd"
    rename_i d H1 hd s1
    obtain ⟨j, rfl⟩ := Int.eq_ofNat_of_zero_le hd.1
    have hj : j < xs.length := by omega
    have hz : atI xs (j : Int) = some xs[j] := atI_nat (by simp [hj])
    walk_at "rd"
    exact k _ _ (List.getElem_mem hj) s1
theorem one_ask {H0 H : Hp} {S : List Addr} {l : Led} {st c p : Addr} {ns : List Int} {xs : List V} {Q : VK} {E : XK} (s : Stt H0 S l H) (sb : List.Sublist [(p, Is (.lst xs)), (st, DrS c), (c, Is (.lst (ns.map V.int)))] l) (hn : ns.length ≤ 63) (hs : st ∈ S ∨ H0 st = none)
    (h0 : 0 < xs.length ∧ xs.length ≤ 1000) (k : ∀ v H', v ∈ xs → Stt H0 S l H' → Q v H') : spOne ([.ref st, .ref p] ++ []) H Q E :=
  ⟨st, c, ns, p, xs, rfl, s.base sb, hn, h0.1, h0.2, fun v H' a q => k v H' a (s.after1 (f := DrS c) (sb.subset (by simp)) q.keep hs (q.pick (by walk_at "mem")))⟩
/-! ### lowest terms -/
def spLow : Sp := fun vs H Q _ => ∃ (a b : Int), vs = [.int a, .int b] ∧ 0 < b ∧ a.natAbs < 2 ^ 2000 ∧ b.natAbs < 2 ^ 2000 ∧ ∀ p H', H p = none → Stt H [] [(p, Is (.tup [.int (a / (Int.gcd a b : Int)), .int (b / (Int.gcd a b : Int))]))] H' → Q (.ref p) H'
theorem ok_l_low (T : Txt K mg) : FnOk P w K mg base CX0 1 (He.fAd K ("_law_low", none)) T.fd_l_low ["_law_top", "_law_low_here"] spLow := by
  refine T.F_l_low.ok sc_l_low (fun vs H Q E h => ?_) (fun cdv A outer s H vs Q E hr h => ?_)
  · obtain ⟨a, b, rfl, _⟩ := h
    rfl
  · obtain ⟨a, b, rfl, h0, h1, h2, k⟩ := h
    refine ⟨_, PSs.nox (pss_cons (ps_par (i := 2) (j := 3) (by rfl) sc_l_low.nd rfl rfl (by decide) rfl rfl (pa_cons (pe_callB call_absQ (by rfl) T.n_abs (by decide +kernel) (pa_cons (pv 0) pa_nil)) (pa_cons (pe_callB call_absQ (by rfl) T.n_abs (by decide +kernel) (pa_cons (pv 1) pa_nil)) pa_nil)) (by rfl))
  (pss_cons (ps_while PassesOwn.never (pt_cmpR op_gt (pv 3) pe_int (nomark _)) (pss_one (ps_par (i := 2) (j := 3) (by rfl) sc_l_low.nd rfl rfl (by decide) rfl rfl (pa_cons (pv 3) (pa_cons (pe_op op_mod (pv 2) (pv 3)) pa_nil)) (by rfl))))
  (pss_one (ps_ret (pe_ifExp (pt_cmpR op_gt (pv 1) pe_int (nomark _)) (pe_tup (pa_cons (pe_op op_fdivW (pv 0) (pv 2)) (pa_cons (pe_op op_fdivW (pv 1) (pv 2)) pa_nil))) (pe_tup (pa_cons (pe_op op_fdivW (pe_un un_neg (pv 0)) (pv 2)) (pa_cons (pe_op op_fdivW (pe_un un_neg (pv 1)) (pv 2)) pa_nil)))))))), ?_⟩
    walk_at "k"
    have s0 : Stt H [] [] H := Stt.nil
    have ab : ∀ z : Int, (if z < 0 then -z else z) = (z.natAbs : Int) := fun z => by split <;> omega
    walk_at "rd"
    rw [ab, ab]
    refine Rd.whileS (fun n σ' H' => H = H' ∧ ∃ x y : Nat, σ' = [some (.int a), some (.int b), some (.int x), some (.int y)] ∧ Nat.gcd x y = Int.gcd a b ∧ y = n) b.natAbs ⟨rfl, a.natAbs, b.natAbs, rfl, rfl, rfl⟩ ?_
    rintro n σ' H' ⟨rfl, x, y, rfl, hg, rfl⟩
    walk_at "rd"
    refine Rd.brD (fun c1 => ?_) (fun c1 => ?_)
    · refine ⟨fun σ' H' => H = H' ∧ σ' = [some (.int a), some (.int b), some (.int y), some (.int (x % y : Nat))], ?_, ?_⟩
      · rintro σ' H' ⟨rfl, rfl⟩
        refine ⟨x % y, Nat.mod_lt _ (by omega), rfl, y, x % y, rfl, ?_, rfl⟩
        rw [← hg, Nat.gcd_comm x y, Nat.gcd_rec y x, Nat.gcd_comm]
      · walk_at "rd"
        exact ⟨rfl, rfl⟩
    · have ey : y = 0 := by omega
      subst ey
      rw [Nat.gcd_zero_right] at hg
      have hb : 0 < Int.gcd a b := Int.gcd_pos_of_ne_zero_right _ (by omega)
      have hle : Int.gcd a b ≤ b.natAbs := Nat.le_of_dvd (by omega) (Int.gcd_dvd_natAbs_right a b)
      have hx : CDivW a (x : Int) := wide_div (b := 2000) (by omega) (by omega) (by decide) (by decide)
      walk_at "rd"
      refine Rd.brD (fun c2 => ?_) (fun c2 => ?_)
      · walk_at "rd"
        rw [← hg] at k
        exact k _ _ (by assumption) (by assumption)
      · exact absurd h0 c2
local macro_rules | `(tactic| walk_at "ask") => `(tactic| ((with_reducible refine' one_ask ?v1 ?v2 ?v3 ?v4 ?v5 ?_); (case v1 => assumption); (case v2 => walk_at "subl"); (case v3 => assumption); (case v4 => walk_at "own"); (case v5 => simp only [List.length_append, List.length_cons, List.length_nil]; decide); intro _ _ _ _))
theorem low_ask {H0 H : Hp} {S : List Addr} {l : Led} {a b : Int} {Q : VK} {E : XK} (s : Stt H0 S l H) (hb : 0 < b) (h1 : a.natAbs < 2 ^ 2000) (h2 : b.natAbs < 2 ^ 2000)
    (k : ∀ p H', H0 p = none → Stt H0 S ((p, Is (.tup [.int (a / (Int.gcd a b : Int)), .int (b / (Int.gcd a b : Int))])) :: l) H' → Q (.ref p) H') : spLow ([.int a, .int b] ++ []) H Q E :=
  ⟨a, b, rfl, hb, h1, h2, fun p H' hp q => k p H' (s.none hp) ((s.after0 q.keep).add (q.pick List.mem_cons_self) (s.fresh hp))⟩
/-- a drawn figure -/
def spFig : Sp := fun vs H Q _ => ∃ (st c : Addr) (ns : List Int), vs = [.ref st] ∧ Stt H [st] (dled st c ns) H ∧ ns.length ≤ 63 ∧ ∀ z H', z.natAbs < 2 ^ 100 → Stt H [st] (dled st c ns) H' → Q (.int z) H'
theorem ok_l_figure (T : Txt K mg) : FnOk P w K mg base CX0 4 (He.fAd K ("_law_figure", none)) T.fd_l_figure ["_law_state"] spFig := by
  refine T.F_l_figure.ok sc_l_figure (fun vs H Q E h => ?_) (fun cdv A outer s H vs Q E hr h => ?_)
  · obtain ⟨st, c, ns, rfl, _⟩ := h
    rfl
  · obtain ⟨st, c, ns, rfl, s0, hl, k⟩ := h
    refine ⟨_, PSs.nox (pss_cons (ps_asg (pe_op op_sub (pe_call (ok_l_take T) (hr.mono (by decide)) rfl T.g_l_take T.F_l_take.kp T.b_l_take .nil pass0 (pa_cons (pv 0) (pa_cons (pe_op op_pow pe_int pe_int) pa_nil))) (pe_op op_mul pe_int (pe_op op_pow pe_int pe_int))) (pg_name (i := 1) sc_l_figure.nd rfl (by first | exact Or.inl rfl | exact Or.inr rfl)))
  (pss_one (ps_ret (pe_call (ok_l_one T) (hr.mono (by decide)) rfl T.g_l_one T.F_l_one.kp T.b_l_one .nil pass0 (pa_cons (pv 0) (pa_cons (pe_lst (pa_cons pe_int (pa_cons pe_int (pa_cons (pe_un un_neg pe_int) (pa_cons pe_int (pa_cons (pe_op op_sub (pe_call (ok_l_take T) (hr.mono (by decide)) rfl T.g_l_take T.F_l_take.kp T.b_l_take .nil pass0 (pa_cons (pv 0) (pa_cons pe_int pa_nil))) pe_int) (pa_cons (pv 1) (pa_cons (pe_op op_add (pe_op op_pow pe_int pe_int) pe_int) pa_nil)))))))) pa_nil)))))), ?_⟩
    walk_at "k"
    walk_at "rd"
    rename_i d1 _ hd1 _ d2 _ hd2 _ p _ _ _ v _ hv s9
    have e18 : (10 : Int) ^ Int.toNat 18 = 1000000000000000000 := by decide
    have e17 : (10 : Int) ^ Int.toNat 17 = 100000000000000000 := by decide
    rw [e18] at hd1
    have hz : ∃ z, v = .int z ∧ z.natAbs < 2 ^ 100 := by
      simp only [List.mem_cons, List.not_mem_nil, or_false] at hv
      rcases hv with rfl | rfl | rfl | rfl | rfl | rfl | rfl
      · exact ⟨_, rfl, by decide⟩
      · exact ⟨_, rfl, by decide⟩
      · exact ⟨_, rfl, by decide⟩
      · exact ⟨_, rfl, by decide⟩
      · exact ⟨_, rfl, by omega⟩
      · exact ⟨_, rfl, by rw [e17]; omega⟩
      · exact ⟨_, rfl, by decide⟩
    obtain ⟨z, rfl, hz⟩ := hz
    exact k z _ hz (s9.sub (by walk_at "subl"))
theorem fig_ask {H0 H : Hp} {S : List Addr} {l : Led} {st c : Addr} {ns : List Int} {Q : VK} {E : XK} (s : Stt H0 S l H) (sb : List.Sublist (dled st c ns) l) (hn : ns.length ≤ 63) (hs : st ∈ S ∨ H0 st = none)
    (k : ∀ z H', z.natAbs < 2 ^ 100 → Stt H0 S l H' → Q (.int z) H') : spFig ([.ref st] ++ []) H Q E :=
  ⟨st, c, ns, rfl, s.base sb, hn, fun v H' a q => k v H' a (s.after1 (f := DrS c) (sb.subset (by simp)) q.keep hs (q.pick (by walk_at "mem")))⟩
/-- a drawn fraction in lowest terms -/
def spFrac : Sp := fun vs H Q _ => ∃ (st c : Addr) (ns : List Int), vs = [.ref st] ∧ Stt H [st] (dled st c ns) H ∧ ns.length ≤ 63 ∧
  ∀ p x y H', H p = none → 0 < y → Int.gcd x y = 1 → x.natAbs < 2 ^ 100 → y.natAbs < 2 ^ 40 → Stt H [st] ((p, Is (.tup [.int x, .int y])) :: dled st c ns) H' → Q (.ref p) H'
theorem gcd_div {a b : Int} (hb : 0 < b) : 0 < b / (Int.gcd a b : Int) ∧ Int.gcd (a / (Int.gcd a b : Int)) (b / (Int.gcd a b : Int)) = 1 ∧ (a / (Int.gcd a b : Int)).natAbs ≤ a.natAbs ∧ (b / (Int.gcd a b : Int)).natAbs ≤ b.natAbs := by
  have hg : 0 < Int.gcd a b := Int.gcd_pos_of_ne_zero_right _ (by omega)
  have d1 : (Int.gcd a b : Int) ∣ a := Int.gcd_dvd_left ..
  have d2 : (Int.gcd a b : Int) ∣ b := Int.gcd_dvd_right ..
  refine ⟨Int.ediv_pos_of_pos_of_dvd hb (by omega) d2, ?_, ?_, ?_⟩
  · exact Int.gcd_ediv_gcd_ediv_gcd hg
  · rw [Int.natAbs_ediv_of_dvd d1]
    exact Nat.div_le_self _ _
  · rw [Int.natAbs_ediv_of_dvd d2]
    exact Nat.div_le_self _ _
theorem ok_l_fraction (T : Txt K mg) : FnOk P w K mg base CX0 5 (He.fAd K ("_law_fraction", none)) T.fd_l_fraction ["_law_state"] spFrac := by
  refine T.F_l_fraction.ok sc_l_fraction (fun vs H Q E h => ?_) (fun cdv A outer s H vs Q E hr h => ?_)
  · obtain ⟨st, c, ns, rfl, _⟩ := h
    rfl
  · obtain ⟨st, c, ns, rfl, s0, hl, k⟩ := h
    refine ⟨_, PSs.nox (pss_one (ps_ret (pe_call (ok_l_low T) (hr.mono (by decide)) rfl T.g_l_low T.F_l_low.kp T.b_l_low .nil pass0 (pa_cons (pe_call (ok_l_figure T) (hr.mono (by decide)) rfl T.g_l_figure T.F_l_figure.kp T.b_l_figure .nil pass0 (pa_cons (pv 0) pa_nil)) (pa_cons (pe_call (ok_l_one T) (hr.mono (by decide)) rfl T.g_l_one T.F_l_one.kp T.b_l_one .nil pass0 (pa_cons (pv 0) (pa_cons (pe_lst (pa_cons pe_int (pa_cons pe_int (pa_cons pe_int (pa_cons pe_int (pa_cons (pe_op op_add pe_int (pe_call (ok_l_take T) (hr.mono (by decide)) rfl T.g_l_take T.F_l_take.kp T.b_l_take .nil pass0 (pa_cons (pv 0) (pa_cons pe_int pa_nil)))) (pa_cons (pe_op op_add (pe_op op_pow pe_int pe_int) pe_int) pa_nil))))))) pa_nil))) pa_nil))))), ?_⟩
    walk_at "k"
    walk_at "rd"
    refine fig_ask s0 (by walk_at "subl") hl (.inl (by walk_at "mem")) fun z H1 hz s1 => ?_
    walk_at "rd"
    rename_i d _ hd _ p _ _ _ v _ hv s9
    have e9 : (10 : Int) ^ Int.toNat 9 = 1000000000 := by decide
    rw [e9] at hv
    have hy : ∃ y, v = .int y ∧ 0 < y ∧ y.natAbs < 2 ^ 40 := by
      simp only [List.mem_cons, List.not_mem_nil, or_false] at hv
      rcases hv with rfl | rfl | rfl | rfl | rfl | rfl
      · exact ⟨_, rfl, by decide, by decide⟩
      · exact ⟨_, rfl, by decide, by decide⟩
      · exact ⟨_, rfl, by decide, by decide⟩
      · exact ⟨_, rfl, by decide, by decide⟩
      · exact ⟨_, rfl, by omega, by omega⟩
      · exact ⟨_, rfl, by decide, by decide⟩
    obtain ⟨y, rfl, hy0, hy⟩ := hy
    walk_at "rd"
    obtain ⟨g1, g2, g3, g4⟩ := gcd_div (a := z) hy0
    refine low_ask s9 hy0 (by omega) (by omega) fun q H5 hq s10 => ?_
    exact k q _ _ H5 hq g1 g2 (by omega) (by omega) (s10.sub (by walk_at "subl"))
theorem frac_ask {H0 H : Hp} {S : List Addr} {l : Led} {st c : Addr} {ns : List Int} {Q : VK} {E : XK} (s : Stt H0 S l H) (sb : List.Sublist (dled st c ns) l) (hn : ns.length ≤ 63) (hs : st ∈ S ∨ H0 st = none)
    (k : ∀ p x y H', H0 p = none → 0 < y ∧ Int.gcd x y = 1 ∧ x.natAbs < 2 ^ 100 ∧ y.natAbs < 2 ^ 40 → Stt H0 S ((p, Is (.tup [.int x, .int y])) :: l) H' → Q (.ref p) H') : spFrac ([.ref st] ++ []) H Q E :=
  ⟨st, c, ns, rfl, s.base sb, hn, fun p x y H' hp a1 a2 a3 a4 q => k p x y H' (s.none hp) ⟨a1, a2, a3, a4⟩ ((s.after1 (f := DrS c) (sb.subset (by simp)) q.keep hs (q.pick (by walk_at "mem"))).add (q.pick List.mem_cons_self) (s.fresh hp))⟩
end

end
section
local macro_rules | `(tactic| walk_at "subl") => `(tactic| first | with_reducible exact List.nil_sublist _ | with_reducible exact List.Sublist.refl _ | (with_reducible refine List.Sublist.cons₂ _ ?_; walk_at "subl") | (with_reducible refine List.Sublist.cons _ ?_; walk_at "subl"))
local macro_rules | `(tactic| walk_at "k") => `(tactic| try dsimp only [L2.cxOf, L2.Cx.nox, L2.Cx.wish, L2.Cx.blk])
local macro_rules | `(tactic| walk_at "ask") => `(tactic| fail)
local macro_rules | `(tactic| walk_at "mem") => `(tactic| first | with_reducible exact List.mem_cons_self | (with_reducible apply List.mem_cons_of_mem; walk_at "mem"))
local macro_rules | `(tactic| walk_at "put") => `(tactic| first | with_reducible exact Lt.Put.head | (with_reducible apply Lt.Put.tail; walk_at "put"))
local macro_rules | `(tactic| walk_at "own") => `(tactic| first | exact Or.inr (by assumption) | exact Or.inl (by walk_at "mem"))
local macro_rules | `(tactic| walk_at "cnd") => `(tactic| first | assumption | decide | ((try dsimp only); omega) | (unfold CMul; omega) | (unfold CDiv; omega) | (unfold CPow; omega) | exact Or.inr (by decide) | exact Or.inl (by decide) | exact wide_div (b := 128) (by omega) (by omega) (by decide) (by decide))
local macro_rules | `(tactic| walk_at "at") => `(tactic| first | exact rfl | assumption)
local macro_rules | `(tactic| walk_at "kit") => `(tactic| first | assumption | exact kit_int_int | exact kit_int_bool | exact kit_int_str | exact kit_int_list | exact kit_int_tuple | exact kit_int_dict | exact kit_bool_int | exact kit_bool_bool | exact kit_bool_str | exact kit_bool_list | exact kit_bool_tuple | exact kit_bool_dict | exact kit_str_int | exact kit_str_bool | exact kit_str_str | exact kit_str_list | exact kit_str_tuple | exact kit_str_dict | exact kit_list_int | exact kit_list_bool | exact kit_list_str | exact kit_list_list | exact kit_list_tuple | exact kit_list_dict | exact kit_tuple_int | exact kit_tuple_bool | exact kit_tuple_str | exact kit_tuple_list | exact kit_tuple_tuple | exact kit_tuple_dict | exact kit_dict_int | exact kit_dict_bool | exact kit_dict_str | exact kit_dict_list | exact kit_dict_tuple | exact kit_dict_dict | exact kit_NoneType_int | exact kit_NoneType_bool | exact kit_NoneType_str | exact kit_NoneType_list | exact kit_NoneType_tuple | exact kit_NoneType_dict)
local macro_rules | `(tactic| walk_at "kitA") => `(tactic| first | assumption | exact kitA_lt_int | exact kitA_lt_bool | exact kitA_lt_str | exact kitA_lt_list | exact kitA_lt_tuple | exact kitA_lt_dict | exact kitA_lt_NoneType | exact kitA_bilt_int | exact kitA_bilt_bool | exact kitA_bilt_str | exact kitA_bilt_list | exact kitA_bilt_tuple | exact kitA_bilt_dict | exact kitA_bilt_NoneType)
local macro_rules | `(tactic| walk_at "ty") => `(tactic| first | exact .base (.int _) | exact .base (.bl _) | exact .base (.str _) | exact .base .non | exact .base (.lst (Stt.get (by assumption) (by walk_at "mem"))) | exact .base (.tup (Stt.get (by assumption) (by walk_at "mem"))) | exact .base (.dK (Stt.get (by assumption) (by walk_at "mem"))) | exact sqL_ty (Stt.upL (by assumption) (by assumption)) | exact sqT_ty (Stt.upT (by assumption) (by assumption)) | exact InsT.ty (by assumption) (Stt.get (by assumption) (by walk_at "mem")) | assumption)
local macro_rules | `(tactic| walk_at "rd1") => `(tactic| first
  | with_reducible refine' Rd.seq ?_
  | with_reducible refine' Rd.asg ?_
  | ((with_reducible refine' Rd.var ?vh ?_); (case vh => exact rfl))
  | with_reducible refine' Rd.con ?_
  | with_reducible refine' Rd.op ?_
  | with_reducible refine' Rd.i0 ?_
  | ((with_reducible refine' Rd.ic ?vh ?_); (case vh => walk_at "cnd"))
  | ((with_reducible refine' Rd.ixL ?v1 ?v2 ?v3 ?_); (case v1 => assumption); (case v2 => walk_at "mem"); (case v3 => walk_at "at"))
  | ((with_reducible refine' Rd.ixT ?v1 ?v2 ?v3 ?_); (case v1 => assumption); (case v2 => walk_at "mem"); (case v3 => walk_at "at"))
  | ((with_reducible refine' Rd.ixD2 ?v1 ?v2 ?_); (case v1 => assumption); (case v2 => walk_at "mem"); intro _)
  | ((with_reducible refine' Rd.ixD3 ?v1 ?v2 ?_); (case v1 => assumption); (case v2 => walk_at "mem"); intro _)
  | ((with_reducible refine' Rd.setD2 ?v1 ?v2 ?v3 ?v4 ?_); (case v1 => assumption); (case v2 => walk_at "mem"); (case v3 => walk_at "put"); (case v4 => walk_at "own"); intro _ _)
  | ((with_reducible refine' Rd.isi ?v1 ?v2 ?v3 ?_); (case v1 => walk_at "ty"); (case v2 => first | exact ClsV.ty _ | exact ClsV.own _); (case v3 => walk_at "kit"))
  | with_reducible refine' Rd.fld ?_
  | ((with_reducible refine' Rd.fldI ?v1 ?v2 ?v3 ?v4 ?v5 ?_); (case v1 => assumption); (case v2 => walk_at "mem"); (case v3 => assumption); (case v4 => assumption); (case v5 => walk_at "at"))
  | with_reducible refine' Rd.sfld ?_
  | ((with_reducible refine' Rd.sfldI ?v1 ?v2 ?v3 ?v4 ?v5 ?v6 ?v7 ?_); (case v1 => assumption); (case v2 => walk_at "mem"); (case v3 => assumption); (case v4 => assumption); (case v5 => first | decide | (refine Nat.lt_of_le_of_lt (putF_len _ _ _) ?_; decide)); (case v6 => walk_at "put"); (case v7 => walk_at "own"); intro _ _)
  | with_reducible refine' Rd.make ?_
  | with_reducible refine' Rd.gcd ?_
  | with_reducible refine' Rd.cons ?_
  | with_reducible refine' Rd.nil ?_
  | with_reducible refine' Rd.cb ?_
  | with_reducible refine' Rd.intI ?_
  | with_reducible refine' Rd.absI ?_
  | ((with_reducible refine' Rd.lenL ?v1 ?v2 ?_); (case v1 => assumption); (case v2 => walk_at "mem"))
  | ((with_reducible refine' Rd.lenT ?v1 ?v2 ?_); (case v1 => assumption); (case v2 => walk_at "mem"))
  | ((with_reducible refine' Rd.lenBL ?v1 ?v2 ?v3 ?_); (case v1 => assumption); (case v2 => assumption); (case v3 => first | exact List.not_mem_nil | assumption))
  | ((with_reducible refine' Rd.lenBT ?v1 ?v2 ?v3 ?_); (case v1 => assumption); (case v2 => assumption); (case v3 => first | exact List.not_mem_nil | assumption))
  | ((with_reducible refine' Rd.ixBL ?v1 ?v2 ?v4 ?v3 ?_); (case v1 => assumption); (case v2 => assumption); (case v4 => first | exact List.not_mem_nil | assumption); (case v3 => walk_at "at"))
  | ((with_reducible refine' Rd.ixBT ?v1 ?v2 ?v4 ?v3 ?_); (case v1 => assumption); (case v2 => assumption); (case v4 => first | exact List.not_mem_nil | assumption); (case v3 => walk_at "at"))
  | ((with_reducible refine' Rd.brI ?vh ?_); (case vh => with_reducible exact rfl))
  | with_reducible refine' Rd.ifS ?_
  | with_reducible refine' Rd.test ?_
  | with_reducible refine' Rd.tbl ?_
  | with_reducible refine' Rd.bl ?_
  | with_reducible refine' Rd.brTT ?_
  | with_reducible refine' Rd.brFF ?_
  | with_reducible refine' Rd.brN ?_
  | ((with_reducible refine' Rd.aug ?vh ?_); (case vh => exact rfl))
  | with_reducible refine' Rd.ipI ?_
  | with_reducible refine' Rd.blV ?_
  | with_reducible refine' Rd.notVL ?_
  | with_reducible refine' Rd.andT ?_
  | with_reducible refine' Rd.orT ?_
  | with_reducible refine' Rd.notT ?_
  | with_reducible refine' Rd.andV ?_
  | with_reducible refine' Rd.orV ?_
  | with_reducible refine' Rd.notV ?_
  | with_reducible refine' Rd.ifE ?_
  | ((with_reducible refine' Rd.eqS ?vh ?_); (case vh => exact rfl))
  | ((with_reducible refine' Rd.neS ?vh ?_); (case vh => exact rfl))
  | with_reducible refine' Rd.par ?_
  | with_reducible refine' Rd.parL ?_
  | with_reducible refine' Rd.un ?_
  | with_reducible refine' Rd.u1 ?_
  | with_reducible refine' Rd.sub ?_
  | ((with_reducible refine' Rd.setL ?v1 ?v2 ?v3 ?v4 ?v5 ?_); (case v1 => assumption); (case v2 => walk_at "mem"); (case v3 => walk_at "at"); (case v4 => walk_at "put"); (case v5 => walk_at "own"); intro _ _)
  | with_reducible refine' Rd.tup ?_
  | with_reducible refine' Rd.lst ?_
  | ((with_reducible refine' Rd.tupN ?v1 ?v2 ?_); (case v1 => assumption); (case v2 => simp only [List.length_cons, List.length_nil]; decide); intro _ _ _ _)
  | ((with_reducible refine' Rd.lstN ?v1 ?v2 ?_); (case v1 => assumption); (case v2 => simp only [List.length_cons, List.length_nil]; decide); intro _ _ _ _)
  | with_reducible refine' Rd.ret ?_
  | with_reducible refine' Rd.drop ?_
  | with_reducible refine' Rd.retN ?_
  | with_reducible refine' Rd.next ?_
  | with_reducible refine' Rd.brk ?_
  | with_reducible refine' Rd.cont ?_
  | with_reducible refine' Rd.call ?_
  | walk_at "ask"
  | with_reducible refine' Rd.bm ?_
  | ((with_reducible refine' Rd.bmL ?v1 ?v2 ?_); (case v1 => assumption); (case v2 => walk_at "mem"))
  | ((with_reducible refine' Rd.app ?v1 ?v2 ?v3 ?v4 ?v5 ?_); (case v1 => assumption); (case v2 => walk_at "mem"); (case v3 => simp only [List.length_cons, List.length_nil, List.length_append]; omega); (case v4 => walk_at "put"); (case v5 => walk_at "own"); intro _ _)
  | with_reducible refine' Rd.asgT ?_
  | ((with_reducible refine' Rd.gtup ?v1 ?v2 ?v3 ?_); (case v1 => assumption); (case v2 => walk_at "mem"); (case v3 => exact rfl))
  | with_reducible refine' Rd.gcons ?_
  | with_reducible refine' Rd.gname ?_
  | with_reducible refine' Rd.gnil ?_
  | with_reducible refine' Rd.sl ?_
  | with_reducible refine' Rd.noPart ?_
  | with_reducible refine' Rd.part ?_
  | with_reducible refine' Rd.prt ?_
  | with_reducible refine' Rd.isB ?_
  | ((with_reducible refine' Rd.wp ?vh ?_); (case vh => exact rfl))
  | with_reducible refine' Rd.makeK ?_
  | with_reducible refine' Rd.meth ?_
  | ((with_reducible refine' Rd.catL ?v1 ?v2 ?v3 ?v4 ?_); (case v1 => assumption); (case v2 => walk_at "mem"); (case v3 => walk_at "mem"); (case v4 => simp only [List.length_cons, List.length_nil, List.length_append]; omega); intro _ _ _ _)
  | with_reducible refine' Rd.dnew ?_
  | ((with_reducible refine' Rd.dnewL ?v1 ?_); (case v1 => assumption); intro _ _ _ _)
  | with_reducible refine' Rd.lc ?_
  | with_reducible refine' Rd.wZ ?_
  | with_reducible refine' Rd.tYesH ?_
  | with_reducible refine' Rd.fmt ?_
  | with_reducible refine' Rd.joined ?_
  | with_reducible refine' Rd.jsNil ?_
  | with_reducible refine' Rd.jsCons ?_
  | ((with_reducible refine' Rd.isiT ?v1 ?v2 ?v3 ?v4 ?v5 ?_); (case v1 => assumption); (case v2 => walk_at "mem"); (case v3 => walk_at "ty"); (case v4 => first | exact .cons (.ty _) (.cons (.ty _) .nil) | exact .cons (.ty _) (.cons (.ty _) (.cons (.ty _) (.cons (.ty _) .nil))) | exact .cons (.ty _) (.cons (.ty _) (.cons (.ty _) .nil))); (case v5 => walk_at "kitA"))
  | with_reducible refine' Rd.forS ?_
  | with_reducible refine' Rd.wEnT ?_
  | ((with_reducible refine' Rd.wEnTL ?v1 ?v2 ?_); (case v1 => assumption); (case v2 => walk_at "mem"))
  | with_reducible refine' Rd.wL ?_
  | ((with_reducible refine' Rd.wLL ?v1 ?v2 ?_); (case v1 => assumption); (case v2 => walk_at "mem"))
  | with_reducible refine' Rd.wT ?_
  | ((with_reducible refine' Rd.wTL ?v1 ?v2 ?_); (case v1 => assumption); (case v2 => walk_at "mem"))
  | with_reducible refine' Rd.wR1 ?_
  | ((with_reducible refine' Rd.wR1L ?v1 ?v2 ?_); (case v1 => omega); (case v2 => omega))
  | with_reducible refine' Rd.wR2 ?_
  | ((with_reducible refine' Rd.wR2L ?v1 ?_); (case v1 => omega)))
local macro_rules | `(tactic| walk_at "rd") => `(tactic| repeat (walk_at "rd1"))

set_option exponentiation.threshold 20000
section
variable {P : Program} {w : World} {K : PySem.W.Frag} {mg : Str → Option Value} {base : Heap}
/-! ### exact numbers -/
def SpanO (K : PySem.W.Frag) (a b : Int) : HO → Prop := fun o => ∃ dx, o = .ins (He.ga K "Span") dx [("over", .int a), ("under", .int b)]
theorem ou_ : ¬ (("over" : Str) = "under") := by decide +kernel
theorem uo_ : ¬ (("under" : Str) = "over") := by decide +kernel
theorem span_fs (a b : Int) : putF "under" (.int b) (putF "over" (.int a) []) = ([("over", V.int a), ("under", V.int b)] : List (Str × V)) := by
  show (if ("over" : Str) = "under" then [(("over" : Str), V.int b)] else (("over" : Str), V.int a) :: putF "under" (V.int b) []) = ([("over", V.int a), ("under", V.int b)] : List (Str × V))
  rw [if_neg ou_]
  rfl
theorem span_over (a b : Int) : ([("over", V.int a), ("under", V.int b)] : List (Str × V)).lookup ("over" : Str) = some (.int a) := rfl
theorem span_under (a b : Int) : ([("over", V.int a), ("under", V.int b)] : List (Str × V)).lookup ("under" : Str) = some (.int b) := by
  rw [← span_fs, lookup_putF, if_pos rfl]
/-- isinstance(thing, int) and not isinstance(thing, bool) -/
def intV : V → Bool
  | .int _ => true
  | _ => false
def spIsI (K : PySem.W.Frag) : Sp := fun vs H Q _ => ∃ (v : V) (t : Value) (b c : Bool), vs = [v] ∧ TyX K H v t ∧ PySem.W.kitOne K t (.type "int") = some b ∧ PySem.W.kitOne K t (.type "bool") = some c ∧ Q (.bl (b && !c)) H
theorem ok_is_integer (T : Txt K mg) : FnOk P w K mg base CX0 1 (He.fAd K ("is_integer", none)) T.fd_is_integer ["thing"] (spIsI K) := by
  refine T.F_is_integer.ok sc_is_integer (fun vs H Q E h => ?_) (fun cdv A outer s H vs Q E hr h => ?_)
  · obtain ⟨v, t, b, c, rfl, _⟩ := h
    rfl
  · obtain ⟨v, t, b, c, rfl, ht, h1, h2, k⟩ := h
    refine ⟨_, PSs.nox (pss_one (ps_ret (pe_and (pe_callB call_isi (by rfl) T.n_isinstance (by decide +kernel) (pa_cons (pv 0) (pa_cons (pe_bltn (v := .ty "int") (by rfl) T.n_int (by decide +kernel) (show RelV (.ty "int") (.type "int") from rfl)) pa_nil))) (pe_one (pe_not (pe_callB call_isi (by rfl) T.n_isinstance (by decide +kernel) (pa_cons (pv 0) (pa_cons (pe_bltn (v := .ty "bool") (by rfl) T.n_bool (by decide +kernel) (show RelV (.ty "bool") (.type "bool") from rfl)) pa_nil)))))))), ?_⟩
    walk_at "k"
    walk_at "rd"
    refine Rd.br (fun e => ?_) (fun e => ?_)
    · subst e
      walk_at "rd"
      exact k
    · subst e
      walk_at "rd"
      exact k
theorem isI_int {H : Hp} {i : Int} {Q : VK} {E : XK} (k : Q (.bl true) H) : spIsI K ([.int i] ++ []) H Q E := ⟨.int i, _, _, _, rfl, .base (.int i), kit_int_int, kit_int_bool, k⟩
local macro_rules | `(tactic| walk_at "ask") => `(tactic| with_reducible refine' isI_int ?_)
/-- a number: an int, or a Span -/
def IsNum (K : PySem.W.Frag) (H : Hp) (v : V) (a b : Int) : Prop := (v = .int a ∧ b = 1) ∨ ∃ p o, v = .ref p ∧ H p = some o ∧ SpanO K a b o
theorem IsNum.kp {S : List Addr} {H H' : Hp} {v : V} {a b : Int} (h : IsNum K H v a b) (k : Kp S H H') (hs : ∀ p, v = .ref p → p ∉ S) : IsNum K H' v a b := by
  rcases h with h | ⟨p, o, rfl, h1, h2⟩
  · exact .inl h
  · exact .inr ⟨p, o, rfl, k.get (hs p rfl) h1, h2⟩
theorem IsNum.kp0 {H H' : Hp} {v : V} {a b : Int} (h : IsNum K H v a b) (k : Kp [] H H') : IsNum K H' v a b := h.kp k fun _ _ z => nomatch z
theorem IsNum.int {H : Hp} {i : Int} : IsNum K H (.int i) i 1 := .inl ⟨rfl, rfl⟩
def spSpanInit (K : PySem.W.Frag) : Sp := fun vs H Q _ => ∃ (p dx : Addr) (a b : Int), vs = [.ref p, .int a, .int b] ∧ H p = some (.ins (He.ga K "Span") dx []) ∧ b ≠ 0 ∧ b.natAbs < 2 ^ 8000 ∧ ∀ H', Kp [p] H H' → (∃ o, H' p = some o ∧ SpanO K (nO a b) (nU a b) o) → Q .non H'
theorem ok_Span_init (T : Txt K mg) : FnOk P w K mg base CX0 2 (He.fAd K ("Span", some "__init__")) T.fd_Span_init ["self", "over", "under"] (spSpanInit K) := by
  refine T.F_Span_init.ok sc_Span_init (fun vs H Q E h => ?_) (fun cdv A outer s H vs Q E hr h => ?_)
  · obtain ⟨p, dx, a, b, rfl, _⟩ := h
    rfl
  · obtain ⟨p, dx, a, b, rfl, h1, h2, h4, k⟩ := h
    refine ⟨_, PSs.nox (pss_cons (ps_if (pt_not (pt_val (pe_call (ok_is_integer T) (hr.mono (by decide)) rfl T.g_is_integer T.F_is_integer.kp T.b_is_integer .nil pass0 (pa_cons (pv 1) pa_nil)))) (pss_one ps_never)
   pss_nil)
  (pss_cons (ps_if (PW.pt (pw_or (pt_not (pt_val (pe_call (ok_is_integer T) (hr.mono (by decide)) rfl T.g_is_integer T.F_is_integer.kp T.b_is_integer .nil pass0 (pa_cons (pv 2) pa_nil)))) (pw_or1 (pt_cmpR op_eq (pv 2) pe_int (nomark _))))) (pss_one ps_never)
   pss_nil)
  (pss_cons (ps_asg (pe_callBfun cr_gcd rfl T.g_gcd (pa_cons (pv 1) (pa_cons (pv 2) pa_nil))) (pg_name (i := 3) sc_Span_init.nd rfl (by first | exact Or.inl rfl | exact Or.inr rfl)))
  (C8.pss_cut (ps_if (pt_cmpR op_lt (pv 2) pe_int (nomark _)) (pss_one (ps_asg (pe_un un_neg (pv 3)) (pg_name (i := 3) sc_Span_init.nd rfl (by first | exact Or.inl rfl | exact Or.inr rfl))))
   pss_nil)
  (pss_cons (ps_fld (pv 0) (pe_op op_fdivZ (pv 1) (pv 3)) rfl)
  (pss_one (ps_fld (pv 0) (pe_op op_fdivZ (pv 2) (pv 3)) rfl))))))), ?_⟩
    walk_at "k"
    have s0 : Stt H [p] [(p, Is (.ins (He.ga K "Span") dx []))] H := ⟨.refl H, by simp, fun e m => by rw [List.mem_singleton.mp m]; exact ⟨_, h1, rfl⟩⟩
    have c1 := T.c_Span
    have c2 := T.a_Span_over
    have c3 := T.a_Span_under
    have hg : 0 < Int.gcd a b := Int.gcd_pos_of_ne_zero_right _ h2
    have hle : Int.gcd a b ≤ b.natAbs := Nat.le_of_dvd (by omega) (Int.gcd_dvd_natAbs_right a b)
    walk_at "rd"
    refine Rd.brJ (fun e => h2 (V.int.inj e)) ?_
    walk_at "rd"
    refine Rd.cut (fun σ' H' => H = H' ∧ ∃ z : Int, σ' = [some (.ref p), some (.int a), some (.int b), some (.int z)] ∧ z ≠ 0 ∧ z.natAbs < 2 ^ 8000 ∧ a.fdiv z = nO a b ∧ b.fdiv z = nU a b) ?_ ?_
    · walk_at "rd"
      refine Rd.brD (fun c => ?_) (fun c => ?_)
      · walk_at "rd"
        exact ⟨rfl, _, rfl, by omega, by omega, nO_neg c, nU_neg c⟩
      · walk_at "rd"
        exact ⟨rfl, _, rfl, by omega, by omega, nO_pos c, nU_pos c⟩
    · rintro σ' H' ⟨rfl, z, rfl, z1, z2, z3, z4⟩
      have cz : CDivZ a z := wide_divZ (b := 8000) z1 z2 (by decide) (by decide)
      have cz2 : CDivZ b z := cz
      walk_at "rd"
      rename_i H3 s3
      rw [z3, z4, span_fs] at s3
      exact k _ s3.keep ⟨_, s3.get (by walk_at "mem"), _, rfl⟩
theorem mk_span {H0 H : Hp} {S : List Addr} {l : Led} {a b : Int} {Q : VK} {E : XK} (s : Stt H0 S l H) (h : b ≠ 0) (hb : b.natAbs < 2 ^ 8000) (k : ∀ p H', H0 p = none → Stt H0 S ((p, SpanO K (nO a b) (nU a b)) :: l) H' → Q (.ref p) H') :
    Rd.Make (He.ga K "Span") (spSpanInit K) [] E [.int a, .int b] H Q := by
  intro x dx hx hdx ne
  have s1 := s.new hdx (.own x)
  have hx' : upd H dx (HO.own x) x = none := by rw [upd_ne (Ne.symm ne)]; exact hx
  have s2 := s1.new hx' (.ins (He.ga K "Span") dx [])
  refine ⟨x, dx, a, b, rfl, upd_same, h, hb, fun H' kp hf => ⟨rfl, k x H' (s.none hx) ?_⟩⟩
  exact (s2.afterX kp (.inr (s.none hx)) hf).sub (List.Sublist.cons₂ _ (List.Sublist.cons _ (List.Sublist.refl _)))
theorem mk_span1 {H0 H : Hp} {S : List Addr} {l : Led} {a : Int} {Q : VK} {E : XK} (s : Stt H0 S l H) (k : ∀ p H', H0 p = none → Stt H0 S ((p, SpanO K (nO a 1) (nU a 1)) :: l) H' → Q (.ref p) H') :
    Rd.Make (He.ga K "Span") (spSpanInit K) [.int 1] E [.int a] H Q := mk_span (E := E) s (by decide) (by decide) k
local macro_rules | `(tactic| walk_at "ask") => `(tactic| ((with_reducible refine' mk_span ?v1 ?v2 ?v3 ?_); (case v1 => assumption); (case v2 => first | assumption | omega); (case v3 => first | assumption | omega); intro _ _ _ _))
local macro_rules | `(tactic| walk_at "ask") => `(tactic| ((with_reducible refine' mk_span1 ?v1 ?_); (case v1 => assumption); intro _ _ _ _))
/-- a Span's attributes -/
theorem fld_over {H0 H : Hp} {S : List Addr} {l : Led} {p : Addr} {a b : Int} {Q : VK} (c : Cls K (He.ga K "Span")) (n : NoAttr K (He.ga K "Span") "over") (s : Stt H0 S l H) (m : (p, SpanO K a b) ∈ l) (h : Q (.int a) H) : Rd.Fld K "over" (.ref p) H Q := by
  obtain ⟨o, h1, dx, rfl⟩ := s.pick m
  exact ⟨p, _, dx, _, _, rfl, h1, c, n, span_over a b, h⟩
theorem fld_under {H0 H : Hp} {S : List Addr} {l : Led} {p : Addr} {a b : Int} {Q : VK} (c : Cls K (He.ga K "Span")) (n : NoAttr K (He.ga K "Span") "under") (s : Stt H0 S l H) (m : (p, SpanO K a b) ∈ l) (h : Q (.int b) H) : Rd.Fld K "under" (.ref p) H Q := by
  obtain ⟨o, h1, dx, rfl⟩ := s.pick m
  exact ⟨p, _, dx, _, _, rfl, h1, c, n, span_under a b, h⟩
local macro_rules | `(tactic| walk_at "ask") => `(tactic| ((with_reducible refine' fld_over ?v1 ?v2 ?v3 ?v4 ?_); (case v1 => assumption); (case v2 => assumption); (case v3 => assumption); (case v4 => walk_at "mem")))
local macro_rules | `(tactic| walk_at "ask") => `(tactic| ((with_reducible refine' fld_under ?v1 ?v2 ?v3 ?v4 ?_); (case v1 => assumption); (case v2 => assumption); (case v3 => assumption); (case v4 => walk_at "mem")))
theorem span_ty {H0 H : Hp} {S : List Addr} {l : Led} {p : Addr} {a b : Int} (T : InsT K (He.ga K "Span")) (s : Stt H0 S l H) (m : (p, SpanO K a b) ∈ l) : TyX K H (.ref p) (.ref (He.ga K "Span")) := by
  obtain ⟨o, h1, dx, rfl⟩ := s.pick m
  exact T.ty h1
local macro_rules | `(tactic| walk_at "ty") => `(tactic| exact span_ty (by assumption) (by assumption) (by walk_at "mem"))
theorem IsNum.cases {H : Hp} {v : V} {a b : Int} {G : Prop} (h : IsNum K H v a b) (h1 : v = .int a → b = 1 → G) (h2 : ∀ p, v = .ref p → Stt H [] [(p, SpanO K a b)] H → G) : G := by
  rcases h with ⟨e1, e2⟩ | ⟨p, o, rfl, e1, e2⟩
  · exact h1 e1 e2
  · exact h2 p rfl ⟨.refl H, by simp, fun e m => by rw [List.mem_singleton.mp m]; exact ⟨o, e1, e2⟩⟩

end

end
section
local macro_rules | `(tactic| walk_at "subl") => `(tactic| first | with_reducible exact List.nil_sublist _ | with_reducible exact List.Sublist.refl _ | (with_reducible refine List.Sublist.cons₂ _ ?_; walk_at "subl") | (with_reducible refine List.Sublist.cons _ ?_; walk_at "subl"))
local macro_rules | `(tactic| walk_at "k") => `(tactic| try dsimp only [L2.cxOf, L2.Cx.nox, L2.Cx.wish, L2.Cx.blk])
local macro_rules | `(tactic| walk_at "ask") => `(tactic| fail)
local macro_rules | `(tactic| walk_at "mem") => `(tactic| first | with_reducible exact List.mem_cons_self | (with_reducible apply List.mem_cons_of_mem; walk_at "mem"))
local macro_rules | `(tactic| walk_at "put") => `(tactic| first | with_reducible exact Lt.Put.head | (with_reducible apply Lt.Put.tail; walk_at "put"))
local macro_rules | `(tactic| walk_at "own") => `(tactic| first | exact Or.inr (by assumption) | exact Or.inl (by walk_at "mem"))
local macro_rules | `(tactic| walk_at "cnd") => `(tactic| first | assumption | decide | ((try dsimp only); omega) | (unfold CMul; omega) | (unfold CDiv; omega) | (unfold CPow; omega) | exact Or.inr (by decide) | exact Or.inl (by decide) | exact wide_div (b := 128) (by omega) (by omega) (by decide) (by decide))
local macro_rules | `(tactic| walk_at "at") => `(tactic| first | exact rfl | assumption)
local macro_rules | `(tactic| walk_at "kit") => `(tactic| first | assumption | exact kit_int_int | exact kit_int_bool | exact kit_int_str | exact kit_int_list | exact kit_int_tuple | exact kit_int_dict | exact kit_bool_int | exact kit_bool_bool | exact kit_bool_str | exact kit_bool_list | exact kit_bool_tuple | exact kit_bool_dict | exact kit_str_int | exact kit_str_bool | exact kit_str_str | exact kit_str_list | exact kit_str_tuple | exact kit_str_dict | exact kit_list_int | exact kit_list_bool | exact kit_list_str | exact kit_list_list | exact kit_list_tuple | exact kit_list_dict | exact kit_tuple_int | exact kit_tuple_bool | exact kit_tuple_str | exact kit_tuple_list | exact kit_tuple_tuple | exact kit_tuple_dict | exact kit_dict_int | exact kit_dict_bool | exact kit_dict_str | exact kit_dict_list | exact kit_dict_tuple | exact kit_dict_dict | exact kit_NoneType_int | exact kit_NoneType_bool | exact kit_NoneType_str | exact kit_NoneType_list | exact kit_NoneType_tuple | exact kit_NoneType_dict)
local macro_rules | `(tactic| walk_at "kitA") => `(tactic| first | assumption | exact kitA_lt_int | exact kitA_lt_bool | exact kitA_lt_str | exact kitA_lt_list | exact kitA_lt_tuple | exact kitA_lt_dict | exact kitA_lt_NoneType | exact kitA_bilt_int | exact kitA_bilt_bool | exact kitA_bilt_str | exact kitA_bilt_list | exact kitA_bilt_tuple | exact kitA_bilt_dict | exact kitA_bilt_NoneType)
local macro_rules | `(tactic| walk_at "ty") => `(tactic| first | exact .base (.int _) | exact .base (.bl _) | exact .base (.str _) | exact .base .non | exact .base (.lst (Stt.get (by assumption) (by walk_at "mem"))) | exact .base (.tup (Stt.get (by assumption) (by walk_at "mem"))) | exact .base (.dK (Stt.get (by assumption) (by walk_at "mem"))) | exact sqL_ty (Stt.upL (by assumption) (by assumption)) | exact sqT_ty (Stt.upT (by assumption) (by assumption)) | exact InsT.ty (by assumption) (Stt.get (by assumption) (by walk_at "mem")) | assumption)
local macro_rules | `(tactic| walk_at "rd1") => `(tactic| first
  | with_reducible refine' Rd.seq ?_
  | with_reducible refine' Rd.asg ?_
  | ((with_reducible refine' Rd.var ?vh ?_); (case vh => exact rfl))
  | with_reducible refine' Rd.con ?_
  | with_reducible refine' Rd.op ?_
  | with_reducible refine' Rd.i0 ?_
  | ((with_reducible refine' Rd.ic ?vh ?_); (case vh => walk_at "cnd"))
  | ((with_reducible refine' Rd.ixL ?v1 ?v2 ?v3 ?_); (case v1 => assumption); (case v2 => walk_at "mem"); (case v3 => walk_at "at"))
  | ((with_reducible refine' Rd.ixT ?v1 ?v2 ?v3 ?_); (case v1 => assumption); (case v2 => walk_at "mem"); (case v3 => walk_at "at"))
  | ((with_reducible refine' Rd.ixD2 ?v1 ?v2 ?_); (case v1 => assumption); (case v2 => walk_at "mem"); intro _)
  | ((with_reducible refine' Rd.ixD3 ?v1 ?v2 ?_); (case v1 => assumption); (case v2 => walk_at "mem"); intro _)
  | ((with_reducible refine' Rd.setD2 ?v1 ?v2 ?v3 ?v4 ?_); (case v1 => assumption); (case v2 => walk_at "mem"); (case v3 => walk_at "put"); (case v4 => walk_at "own"); intro _ _)
  | ((with_reducible refine' Rd.isi ?v1 ?v2 ?v3 ?_); (case v1 => walk_at "ty"); (case v2 => first | exact ClsV.ty _ | exact ClsV.own _); (case v3 => walk_at "kit"))
  | with_reducible refine' Rd.fld ?_
  | ((with_reducible refine' Rd.fldI ?v1 ?v2 ?v3 ?v4 ?v5 ?_); (case v1 => assumption); (case v2 => walk_at "mem"); (case v3 => assumption); (case v4 => assumption); (case v5 => walk_at "at"))
  | with_reducible refine' Rd.sfld ?_
  | ((with_reducible refine' Rd.sfldI ?v1 ?v2 ?v3 ?v4 ?v5 ?v6 ?v7 ?_); (case v1 => assumption); (case v2 => walk_at "mem"); (case v3 => assumption); (case v4 => assumption); (case v5 => first | decide | (refine Nat.lt_of_le_of_lt (putF_len _ _ _) ?_; decide)); (case v6 => walk_at "put"); (case v7 => walk_at "own"); intro _ _)
  | with_reducible refine' Rd.make ?_
  | with_reducible refine' Rd.gcd ?_
  | with_reducible refine' Rd.cons ?_
  | with_reducible refine' Rd.nil ?_
  | with_reducible refine' Rd.cb ?_
  | with_reducible refine' Rd.intI ?_
  | with_reducible refine' Rd.absI ?_
  | ((with_reducible refine' Rd.lenL ?v1 ?v2 ?_); (case v1 => assumption); (case v2 => walk_at "mem"))
  | ((with_reducible refine' Rd.lenT ?v1 ?v2 ?_); (case v1 => assumption); (case v2 => walk_at "mem"))
  | ((with_reducible refine' Rd.lenBL ?v1 ?v2 ?v3 ?_); (case v1 => assumption); (case v2 => assumption); (case v3 => first | exact List.not_mem_nil | assumption))
  | ((with_reducible refine' Rd.lenBT ?v1 ?v2 ?v3 ?_); (case v1 => assumption); (case v2 => assumption); (case v3 => first | exact List.not_mem_nil | assumption))
  | ((with_reducible refine' Rd.ixBL ?v1 ?v2 ?v4 ?v3 ?_); (case v1 => assumption); (case v2 => assumption); (case v4 => first | exact List.not_mem_nil | assumption); (case v3 => walk_at "at"))
  | ((with_reducible refine' Rd.ixBT ?v1 ?v2 ?v4 ?v3 ?_); (case v1 => assumption); (case v2 => assumption); (case v4 => first | exact List.not_mem_nil | assumption); (case v3 => walk_at "at"))
  | ((with_reducible refine' Rd.brI ?vh ?_); (case vh => with_reducible exact rfl))
  | with_reducible refine' Rd.ifS ?_
  | with_reducible refine' Rd.test ?_
  | with_reducible refine' Rd.tbl ?_
  | with_reducible refine' Rd.bl ?_
  | with_reducible refine' Rd.brTT ?_
  | with_reducible refine' Rd.brFF ?_
  | with_reducible refine' Rd.brN ?_
  | ((with_reducible refine' Rd.aug ?vh ?_); (case vh => exact rfl))
  | with_reducible refine' Rd.ipI ?_
  | with_reducible refine' Rd.blV ?_
  | with_reducible refine' Rd.notVL ?_
  | with_reducible refine' Rd.andT ?_
  | with_reducible refine' Rd.orT ?_
  | with_reducible refine' Rd.notT ?_
  | with_reducible refine' Rd.andV ?_
  | with_reducible refine' Rd.orV ?_
  | with_reducible refine' Rd.notV ?_
  | with_reducible refine' Rd.ifE ?_
  | ((with_reducible refine' Rd.eqS ?vh ?_); (case vh => exact rfl))
  | ((with_reducible refine' Rd.neS ?vh ?_); (case vh => exact rfl))
  | with_reducible refine' Rd.par ?_
  | with_reducible refine' Rd.parL ?_
  | with_reducible refine' Rd.un ?_
  | with_reducible refine' Rd.u1 ?_
  | with_reducible refine' Rd.sub ?_
  | ((with_reducible refine' Rd.setL ?v1 ?v2 ?v3 ?v4 ?v5 ?_); (case v1 => assumption); (case v2 => walk_at "mem"); (case v3 => walk_at "at"); (case v4 => walk_at "put"); (case v5 => walk_at "own"); intro _ _)
  | with_reducible refine' Rd.tup ?_
  | with_reducible refine' Rd.lst ?_
  | ((with_reducible refine' Rd.tupN ?v1 ?v2 ?_); (case v1 => assumption); (case v2 => simp only [List.length_cons, List.length_nil]; decide); intro _ _ _ _)
  | ((with_reducible refine' Rd.lstN ?v1 ?v2 ?_); (case v1 => assumption); (case v2 => simp only [List.length_cons, List.length_nil]; decide); intro _ _ _ _)
  | with_reducible refine' Rd.ret ?_
  | with_reducible refine' Rd.drop ?_
  | with_reducible refine' Rd.retN ?_
  | with_reducible refine' Rd.next ?_
  | with_reducible refine' Rd.brk ?_
  | with_reducible refine' Rd.cont ?_
  | with_reducible refine' Rd.call ?_
  | walk_at "ask"
  | with_reducible refine' Rd.bm ?_
  | ((with_reducible refine' Rd.bmL ?v1 ?v2 ?_); (case v1 => assumption); (case v2 => walk_at "mem"))
  | ((with_reducible refine' Rd.app ?v1 ?v2 ?v3 ?v4 ?v5 ?_); (case v1 => assumption); (case v2 => walk_at "mem"); (case v3 => simp only [List.length_cons, List.length_nil, List.length_append]; omega); (case v4 => walk_at "put"); (case v5 => walk_at "own"); intro _ _)
  | with_reducible refine' Rd.asgT ?_
  | ((with_reducible refine' Rd.gtup ?v1 ?v2 ?v3 ?_); (case v1 => assumption); (case v2 => walk_at "mem"); (case v3 => exact rfl))
  | with_reducible refine' Rd.gcons ?_
  | with_reducible refine' Rd.gname ?_
  | with_reducible refine' Rd.gnil ?_
  | with_reducible refine' Rd.sl ?_
  | with_reducible refine' Rd.noPart ?_
  | with_reducible refine' Rd.part ?_
  | with_reducible refine' Rd.prt ?_
  | with_reducible refine' Rd.isB ?_
  | ((with_reducible refine' Rd.wp ?vh ?_); (case vh => exact rfl))
  | with_reducible refine' Rd.makeK ?_
  | with_reducible refine' Rd.meth ?_
  | ((with_reducible refine' Rd.catL ?v1 ?v2 ?v3 ?v4 ?_); (case v1 => assumption); (case v2 => walk_at "mem"); (case v3 => walk_at "mem"); (case v4 => simp only [List.length_cons, List.length_nil, List.length_append]; omega); intro _ _ _ _)
  | with_reducible refine' Rd.dnew ?_
  | ((with_reducible refine' Rd.dnewL ?v1 ?_); (case v1 => assumption); intro _ _ _ _)
  | with_reducible refine' Rd.lc ?_
  | with_reducible refine' Rd.wZ ?_
  | with_reducible refine' Rd.tYesH ?_
  | with_reducible refine' Rd.fmt ?_
  | with_reducible refine' Rd.joined ?_
  | with_reducible refine' Rd.jsNil ?_
  | with_reducible refine' Rd.jsCons ?_
  | ((with_reducible refine' Rd.isiT ?v1 ?v2 ?v3 ?v4 ?v5 ?_); (case v1 => assumption); (case v2 => walk_at "mem"); (case v3 => walk_at "ty"); (case v4 => first | exact .cons (.ty _) (.cons (.ty _) .nil) | exact .cons (.ty _) (.cons (.ty _) (.cons (.ty _) (.cons (.ty _) .nil))) | exact .cons (.ty _) (.cons (.ty _) (.cons (.ty _) .nil))); (case v5 => walk_at "kitA"))
  | with_reducible refine' Rd.forS ?_
  | with_reducible refine' Rd.wEnT ?_
  | ((with_reducible refine' Rd.wEnTL ?v1 ?v2 ?_); (case v1 => assumption); (case v2 => walk_at "mem"))
  | with_reducible refine' Rd.wL ?_
  | ((with_reducible refine' Rd.wLL ?v1 ?v2 ?_); (case v1 => assumption); (case v2 => walk_at "mem"))
  | with_reducible refine' Rd.wT ?_
  | ((with_reducible refine' Rd.wTL ?v1 ?v2 ?_); (case v1 => assumption); (case v2 => walk_at "mem"))
  | with_reducible refine' Rd.wR1 ?_
  | ((with_reducible refine' Rd.wR1L ?v1 ?v2 ?_); (case v1 => omega); (case v2 => omega))
  | with_reducible refine' Rd.wR2 ?_
  | ((with_reducible refine' Rd.wR2L ?v1 ?_); (case v1 => omega)))
local macro_rules | `(tactic| walk_at "rd") => `(tactic| repeat (walk_at "rd1"))

section
variable {P : Program} {w : World} {K : PySem.W.Frag} {mg : Str → Option Value} {base : Heap}
/-! ### the law's own comparison: what is the same at every depth -/
def spSame (K : PySem.W.Frag) (n : Nat) : Sp := fun vs H Q _ => ∃ (x y : V) (d : PyData), vs = [x, y] ∧ Dp K H x d ∧ Dp K H y d ∧ d.depth ≤ n ∧ d.weight ≤ 90000 ∧ ∀ H', Kp [] H H' → Q (.bl true) H'
theorem same_body (T : Txt K mg) (n k : Nat) (hk : k ≤ 60) (sp0 : Sp) (F0 : FnOk P w K mg base CX0 k (He.fAd K ("_law_same", none)) T.fd_l_same ["_law_found", "_law_due"] sp0)
    (h0 : ∀ x y H Q E, (∃ d, Dp K H x d ∧ Dp K H y d ∧ d.depth + 1 ≤ n ∧ d.weight ≤ 90000 ∧ ∀ H', Kp [] H H' → Q (.bl true) H') → sp0 [x, y] H Q E) : FnOk P w K mg base CX0 (k + 1) (He.fAd K ("_law_same", none)) T.fd_l_same ["_law_found", "_law_due"] (spSame K n) := by
  refine T.F_l_same.ok sc_l_same (fun vs H Q E h => ?_) (fun cdv A outer s H vs Q E hr h => ?_)
  · obtain ⟨x, y, d, rfl, _⟩ := h
    rfl
  · obtain ⟨x, y, d, rfl, hx, hy, hd, hw, q⟩ := h
    refine ⟨_, PSs.nox (pss_cons (ps_if (pt_val (pe_callB call_isiT (by rfl) T.n_isinstance (by decide +kernel) (pa_cons (pv 1) (pa_cons (pe_tup (pa_cons (pe_bltn (v := .ty "list") (by rfl) T.n_list (by decide +kernel) (show RelV (.ty "list") (.type "list") from rfl)) (pa_cons (pe_bltn (v := .ty "tuple") (by rfl) T.n_tuple (by decide +kernel) (show RelV (.ty "tuple") (.type "tuple") from rfl)) pa_nil))) pa_nil)))) (pss_cons (ps_if (PW.pt (pw_or (pt_cmpR op_ne (pe_callB call_isi (by rfl) T.n_isinstance (by decide +kernel) (pa_cons (pv 0) (pa_cons (pe_bltn (v := .ty "list") (by rfl) T.n_list (by decide +kernel) (show RelV (.ty "list") (.type "list") from rfl)) pa_nil))) (pe_callB call_isi (by rfl) T.n_isinstance (by decide +kernel) (pa_cons (pv 1) (pa_cons (pe_bltn (v := .ty "list") (by rfl) T.n_list (by decide +kernel) (show RelV (.ty "list") (.type "list") from rfl)) pa_nil))) (nomark _)) (pw_or1 (pt_cmpR op_ne (pe_callB call_isi (by rfl) T.n_isinstance (by decide +kernel) (pa_cons (pv 0) (pa_cons (pe_bltn (v := .ty "tuple") (by rfl) T.n_tuple (by decide +kernel) (show RelV (.ty "tuple") (.type "tuple") from rfl)) pa_nil))) (pe_callB call_isi (by rfl) T.n_isinstance (by decide +kernel) (pa_cons (pv 1) (pa_cons (pe_bltn (v := .ty "tuple") (by rfl) T.n_tuple (by decide +kernel) (show RelV (.ty "tuple") (.type "tuple") from rfl)) pa_nil))) (nomark _))))) (pss_one (ps_ret pe_bl))
   pss_nil)
  (pss_one (ps_ret (pe_and (pe_cmpR op_eq (pe_callB call_lenQ (by rfl) T.n_len PySem.boot_len (pa_cons (pv 0) pa_nil)) (pe_callB call_lenQ (by rfl) T.n_len PySem.boot_len (pa_cons (pv 1) pa_nil)) (nomark _)) (pe_one (pe_callB (cr_all rfl) (by rfl) T.n_all (by decide +kernel) (pa_cons (pe_lc (own := [("_law_a", 2), ("_law_b", 3)]) (g := gTup K 2 (gCons (gName 2) (gCons (gName 3) (gNil)))) (tt := tYes) (by rfl) sc_l_same.nd (RZ.pi_zipA (by rfl) T.n_zip (pa_cons (pv 0) (pa_cons (pv 1) pa_nil))) (blkOk_by (own := [("_law_a", 2), ("_law_b", 3)]) (N := ["_law_found", "_law_due", "_law_a", "_law_b"]) (sc := defScope s_l_same) (by decide +kernel)) (fun _ _ _ _ _ => (pg_tup (by rfl) (pgs_cons (pg_name (i := 2) sc_l_same.nd rfl (by first | exact Or.inl rfl | exact Or.inr rfl)) (pgs_cons (pg_name (i := 3) sc_l_same.nd rfl (by first | exact Or.inl rfl | exact Or.inr rfl)) pgs_nil)))) (fun _ _ _ _ _ => pts_nil) (fun _ _ _ _ _ => (pe_call F0 hr rfl T.g_l_same T.F_l_same.kp T.b_l_same .nil pass0 (pa_cons (pv 2) (pa_cons (pv 3) pa_nil))))) pa_nil)))))))
   pss_nil)
  (pss_cons (ps_if (pt_val (pe_callB call_isi (by rfl) T.n_isinstance (by decide +kernel) (pa_cons (pv 1) (pa_cons (pe_bltn (v := .ty "int") (by rfl) T.n_int (by decide +kernel) (show RelV (.ty "int") (.type "int") from rfl)) pa_nil)))) (pss_one (ps_ret (pe_and (pe_callB call_isi (by rfl) T.n_isinstance (by decide +kernel) (pa_cons (pv 0) (pa_cons (pe_bltn (v := .ty "int") (by rfl) T.n_int (by decide +kernel) (show RelV (.ty "int") (.type "int") from rfl)) pa_nil))) (pe_and (pe_cmpR op_eq (pe_callB call_isi (by rfl) T.n_isinstance (by decide +kernel) (pa_cons (pv 0) (pa_cons (pe_bltn (v := .ty "bool") (by rfl) T.n_bool (by decide +kernel) (show RelV (.ty "bool") (.type "bool") from rfl)) pa_nil))) (pe_callB call_isi (by rfl) T.n_isinstance (by decide +kernel) (pa_cons (pv 1) (pa_cons (pe_bltn (v := .ty "bool") (by rfl) T.n_bool (by decide +kernel) (show RelV (.ty "bool") (.type "bool") from rfl)) pa_nil))) (nomark _)) (pe_one (pe_cmpR op_eq (pv 0) (pv 1) (nomark _)))))))
   pss_nil)
  (pss_one (ps_ret (pe_and (pe_cmpR op_isBl (pe_callB call_isiT (by rfl) T.n_isinstance (by decide +kernel) (pa_cons (pv 0) (pa_cons (pe_tup (pa_cons (pe_bltn (v := .ty "bool") (by rfl) T.n_bool (by decide +kernel) (show RelV (.ty "bool") (.type "bool") from rfl)) (pa_cons (pe_bltn (v := .ty "int") (by rfl) T.n_int (by decide +kernel) (show RelV (.ty "int") (.type "int") from rfl)) (pa_cons (pe_bltn (v := .ty "list") (by rfl) T.n_list (by decide +kernel) (show RelV (.ty "list") (.type "list") from rfl)) (pa_cons (pe_bltn (v := .ty "tuple") (by rfl) T.n_tuple (by decide +kernel) (show RelV (.ty "tuple") (.type "tuple") from rfl)) pa_nil))))) pa_nil))) pe_bl (nomark _)) (pe_one (pe_cmpR op_eq (pv 0) (pv 1) (nomark _)))))))), ?_⟩
    walk_at "k"
    have s0 : Stt H [] [] H := Stt.nil
    have e1 : ∀ v : V, decide (v = v) = true := fun v => decide_eq_true rfl
    cases d with
    | none =>
      cases hx
      cases hy
      walk_at "rd"
      rename_i s1
      rw [e1]
      exact q _ s1.keep
    | bool b =>
      cases hx
      cases hy
      walk_at "rd"
      rename_i s1
      rw [e1]
      exact q _ s1.keep
    | int i =>
      cases hx
      cases hy
      walk_at "rd"
      rename_i s1
      rw [e1]
      exact q _ s1.keep
    | str z =>
      cases hx
      cases hy
      walk_at "rd"
      rename_i s1
      rw [e1]
      exact q _ s1.keep
    | list ds =>
      cases hx with
      | @lst a xs _ hx hxs =>
      cases hy with
      | @lst b ys _ hy hys =>
      have hlen : xs.length = ys.length := (Lt.DpAll.len hxs).trans (Lt.DpAll.len hys).symm
      walk_at "rd"
      refine Rd.brI (by rw [hlen]) ?_
      walk_at "rd"
      rename_i p0 _ _ s1
      refine Rd.zL (s1.upL hx) (s1.upL hy) ?_
      refine Rd.lcG (walk_zip rfl) s1 (fun i acc ex => ex = [] ∧ acc = List.replicate i (.bl true)) ⟨rfl, rfl⟩ (fun H' D acc ex _ q => ⟨q.upL hx, q.upL hy⟩) ?_ ?_
      · rintro D hD i x H1 H2 acc ex hi ⟨rfl, rfl⟩ hac s2 ⟨p, x1, y1, rfl, hp, rfl, e2, e3⟩
        have s3 := s2.new hp (.tup [x1, y1])
        obtain ⟨d1, f1, g1⟩ := Lt.DpAll.at hxs e2
        obtain ⟨d2, f2, g2⟩ := Lt.DpAll.at hys e3
        rw [f1] at f2
        cases f2
        walk_at "rd"
        have hdp : d1.depth + 1 ≤ n := Nat.le_trans (Nat.succ_le_succ (depth_mem f1)) hd
        have hw1 : d1.weight ≤ 90000 := Nat.le_trans (weight_mem f1) hw
        have hl2 : ds.length ≤ 90000 := Nat.le_trans (weight_len ds) hw
        have hl1 := Lt.DpAll.len hxs
        refine h0 x1 y1 _ _ _ ⟨d1, dp_kp s3.keep g1, dp_kp s3.keep g2, hdp, hw1, fun H5 k5 => ?_⟩
        have s5 := (s3.after0 k5).sub (List.Sublist.cons _ (List.Sublist.refl _))
        refine Rd.lcE s5 hD (by omega) hac ⟨rfl, ?_⟩
        · rw [List.replicate_succ']
      · rintro D H1 acc ex hD ⟨rfl, rfl⟩ s2
        have s3 : Stt H [] ((D, Is (.lst ((List.replicate (min xs.length ys.length) true).map V.bl))) :: ([] ++ [(p0, Is (.tup [V.ty "list", V.ty "tuple"]))])) H1 := by
          rw [List.map_replicate]
          exact s2
        walk_at "rd"
        refine Rd.allL s3 (by walk_at "mem") ?_
        walk_at "rd"
        have e3 : (List.replicate (min xs.length ys.length) true).all id = true := by simp
        rw [e3]
        exact q _ s3.keep
    | tuple ds =>
      cases hx with
      | @tup a xs _ hx hxs =>
      cases hy with
      | @tup b ys _ hy hys =>
      have hlen : xs.length = ys.length := (Lt.DpAll.len hxs).trans (Lt.DpAll.len hys).symm
      walk_at "rd"
      refine Rd.brI (by rw [hlen]) ?_
      walk_at "rd"
      rename_i p0 _ _ s1
      refine Rd.zT (s1.upT hx) (s1.upT hy) ?_
      refine Rd.lcG (walk_zipT rfl) s1 (fun i acc ex => ex = [] ∧ acc = List.replicate i (.bl true)) ⟨rfl, rfl⟩ (fun H' D acc ex _ q => ⟨q.upT hx, q.upT hy⟩) ?_ ?_
      · rintro D hD i x H1 H2 acc ex hi ⟨rfl, rfl⟩ hac s2 ⟨p, x1, y1, rfl, hp, rfl, e2, e3⟩
        have s3 := s2.new hp (.tup [x1, y1])
        obtain ⟨d1, f1, g1⟩ := Lt.DpAll.at hxs e2
        obtain ⟨d2, f2, g2⟩ := Lt.DpAll.at hys e3
        rw [f1] at f2
        cases f2
        walk_at "rd"
        have hdp : d1.depth + 1 ≤ n := Nat.le_trans (Nat.succ_le_succ (depth_mem f1)) hd
        have hw1 : d1.weight ≤ 90000 := Nat.le_trans (weight_mem f1) hw
        have hl2 : ds.length ≤ 90000 := Nat.le_trans (weight_len ds) hw
        have hl1 := Lt.DpAll.len hxs
        refine h0 x1 y1 _ _ _ ⟨d1, dp_kp s3.keep g1, dp_kp s3.keep g2, hdp, hw1, fun H5 k5 => ?_⟩
        have s5 := (s3.after0 k5).sub (List.Sublist.cons _ (List.Sublist.refl _))
        refine Rd.lcE s5 hD (by omega) hac ⟨rfl, ?_⟩
        · rw [List.replicate_succ']
      · rintro D H1 acc ex hD ⟨rfl, rfl⟩ s2
        have s3 : Stt H [] ((D, Is (.lst ((List.replicate (min xs.length ys.length) true).map V.bl))) :: ([] ++ [(p0, Is (.tup [V.ty "list", V.ty "tuple"]))])) H1 := by
          rw [List.map_replicate]
          exact s2
        walk_at "rd"
        refine Rd.allL s3 (by walk_at "mem") ?_
        walk_at "rd"
        have e3 : (List.replicate (min xs.length ys.length) true).all id = true := by simp
        rw [e3]
        exact q _ s3.keep
    | dict kvs => cases hx
theorem ok_l_same (T : Txt K mg) : ∀ n, n ≤ 60 → FnOk P w K mg base CX0 (n + 1) (He.fAd K ("_law_same", none)) T.fd_l_same ["_law_found", "_law_due"] (spSame K n)
  | 0, _ => same_body T 0 0 (by omega) _ fnok_false fun x y H Q E ⟨d, _, _, h, _⟩ => by omega
  | n + 1, hn => same_body T (n + 1) (n + 1) hn _ (ok_l_same T n (by omega)) fun x y H Q E ⟨d, h1, h2, h3, h4, h5⟩ => ⟨x, y, d, rfl, h1, h2, by omega, h4, h5⟩
end

end
section
local macro_rules | `(tactic| walk_at "subl") => `(tactic| first | with_reducible exact List.nil_sublist _ | with_reducible exact List.Sublist.refl _ | (with_reducible refine List.Sublist.cons₂ _ ?_; walk_at "subl") | (with_reducible refine List.Sublist.cons _ ?_; walk_at "subl"))
local macro_rules | `(tactic| walk_at "k") => `(tactic| try dsimp only [L2.cxOf, L2.Cx.nox, L2.Cx.wish, L2.Cx.blk])
local macro_rules | `(tactic| walk_at "ask") => `(tactic| fail)
local macro_rules | `(tactic| walk_at "mem") => `(tactic| first | with_reducible exact List.mem_cons_self | (with_reducible apply List.mem_cons_of_mem; walk_at "mem"))
local macro_rules | `(tactic| walk_at "put") => `(tactic| first | with_reducible exact Lt.Put.head | (with_reducible apply Lt.Put.tail; walk_at "put"))
local macro_rules | `(tactic| walk_at "own") => `(tactic| first | exact Or.inr (by assumption) | exact Or.inl (by walk_at "mem"))
local macro_rules | `(tactic| walk_at "cnd") => `(tactic| first | assumption | decide | ((try dsimp only); omega) | (unfold CMul; omega) | (unfold CDiv; omega) | (unfold CPow; omega) | exact Or.inr (by decide) | exact Or.inl (by decide) | exact wide_div (b := 128) (by omega) (by omega) (by decide) (by decide))
local macro_rules | `(tactic| walk_at "at") => `(tactic| first | exact rfl | assumption)
local macro_rules | `(tactic| walk_at "kit") => `(tactic| first | assumption | exact kit_int_int | exact kit_int_bool | exact kit_int_str | exact kit_int_list | exact kit_int_tuple | exact kit_int_dict | exact kit_bool_int | exact kit_bool_bool | exact kit_bool_str | exact kit_bool_list | exact kit_bool_tuple | exact kit_bool_dict | exact kit_str_int | exact kit_str_bool | exact kit_str_str | exact kit_str_list | exact kit_str_tuple | exact kit_str_dict | exact kit_list_int | exact kit_list_bool | exact kit_list_str | exact kit_list_list | exact kit_list_tuple | exact kit_list_dict | exact kit_tuple_int | exact kit_tuple_bool | exact kit_tuple_str | exact kit_tuple_list | exact kit_tuple_tuple | exact kit_tuple_dict | exact kit_dict_int | exact kit_dict_bool | exact kit_dict_str | exact kit_dict_list | exact kit_dict_tuple | exact kit_dict_dict | exact kit_NoneType_int | exact kit_NoneType_bool | exact kit_NoneType_str | exact kit_NoneType_list | exact kit_NoneType_tuple | exact kit_NoneType_dict)
local macro_rules | `(tactic| walk_at "kitA") => `(tactic| first | assumption | exact kitA_lt_int | exact kitA_lt_bool | exact kitA_lt_str | exact kitA_lt_list | exact kitA_lt_tuple | exact kitA_lt_dict | exact kitA_lt_NoneType | exact kitA_bilt_int | exact kitA_bilt_bool | exact kitA_bilt_str | exact kitA_bilt_list | exact kitA_bilt_tuple | exact kitA_bilt_dict | exact kitA_bilt_NoneType)
local macro_rules | `(tactic| walk_at "ty") => `(tactic| first | exact .base (.int _) | exact .base (.bl _) | exact .base (.str _) | exact .base .non | exact .base (.lst (Stt.get (by assumption) (by walk_at "mem"))) | exact .base (.tup (Stt.get (by assumption) (by walk_at "mem"))) | exact .base (.dK (Stt.get (by assumption) (by walk_at "mem"))) | exact sqL_ty (Stt.upL (by assumption) (by assumption)) | exact sqT_ty (Stt.upT (by assumption) (by assumption)) | exact InsT.ty (by assumption) (Stt.get (by assumption) (by walk_at "mem")) | assumption)
local macro_rules | `(tactic| walk_at "rd1") => `(tactic| first
  | with_reducible refine' Rd.seq ?_
  | with_reducible refine' Rd.asg ?_
  | ((with_reducible refine' Rd.var ?vh ?_); (case vh => exact rfl))
  | with_reducible refine' Rd.con ?_
  | with_reducible refine' Rd.op ?_
  | with_reducible refine' Rd.i0 ?_
  | ((with_reducible refine' Rd.ic ?vh ?_); (case vh => walk_at "cnd"))
  | ((with_reducible refine' Rd.ixL ?v1 ?v2 ?v3 ?_); (case v1 => assumption); (case v2 => walk_at "mem"); (case v3 => walk_at "at"))
  | ((with_reducible refine' Rd.ixT ?v1 ?v2 ?v3 ?_); (case v1 => assumption); (case v2 => walk_at "mem"); (case v3 => walk_at "at"))
  | ((with_reducible refine' Rd.ixD2 ?v1 ?v2 ?_); (case v1 => assumption); (case v2 => walk_at "mem"); intro _)
  | ((with_reducible refine' Rd.ixD3 ?v1 ?v2 ?_); (case v1 => assumption); (case v2 => walk_at "mem"); intro _)
  | ((with_reducible refine' Rd.setD2 ?v1 ?v2 ?v3 ?v4 ?_); (case v1 => assumption); (case v2 => walk_at "mem"); (case v3 => walk_at "put"); (case v4 => walk_at "own"); intro _ _)
  | ((with_reducible refine' Rd.isi ?v1 ?v2 ?v3 ?_); (case v1 => walk_at "ty"); (case v2 => first | exact ClsV.ty _ | exact ClsV.own _); (case v3 => walk_at "kit"))
  | with_reducible refine' Rd.fld ?_
  | ((with_reducible refine' Rd.fldI ?v1 ?v2 ?v3 ?v4 ?v5 ?_); (case v1 => assumption); (case v2 => walk_at "mem"); (case v3 => assumption); (case v4 => assumption); (case v5 => walk_at "at"))
  | with_reducible refine' Rd.sfld ?_
  | ((with_reducible refine' Rd.sfldI ?v1 ?v2 ?v3 ?v4 ?v5 ?v6 ?v7 ?_); (case v1 => assumption); (case v2 => walk_at "mem"); (case v3 => assumption); (case v4 => assumption); (case v5 => first | decide | (refine Nat.lt_of_le_of_lt (putF_len _ _ _) ?_; decide)); (case v6 => walk_at "put"); (case v7 => walk_at "own"); intro _ _)
  | with_reducible refine' Rd.make ?_
  | with_reducible refine' Rd.gcd ?_
  | with_reducible refine' Rd.cons ?_
  | with_reducible refine' Rd.nil ?_
  | with_reducible refine' Rd.cb ?_
  | with_reducible refine' Rd.intI ?_
  | with_reducible refine' Rd.absI ?_
  | ((with_reducible refine' Rd.lenL ?v1 ?v2 ?_); (case v1 => assumption); (case v2 => walk_at "mem"))
  | ((with_reducible refine' Rd.lenT ?v1 ?v2 ?_); (case v1 => assumption); (case v2 => walk_at "mem"))
  | ((with_reducible refine' Rd.lenBL ?v1 ?v2 ?v3 ?_); (case v1 => assumption); (case v2 => assumption); (case v3 => first | exact List.not_mem_nil | assumption))
  | ((with_reducible refine' Rd.lenBT ?v1 ?v2 ?v3 ?_); (case v1 => assumption); (case v2 => assumption); (case v3 => first | exact List.not_mem_nil | assumption))
  | ((with_reducible refine' Rd.ixBL ?v1 ?v2 ?v4 ?v3 ?_); (case v1 => assumption); (case v2 => assumption); (case v4 => first | exact List.not_mem_nil | assumption); (case v3 => walk_at "at"))
  | ((with_reducible refine' Rd.ixBT ?v1 ?v2 ?v4 ?v3 ?_); (case v1 => assumption); (case v2 => assumption); (case v4 => first | exact List.not_mem_nil | assumption); (case v3 => walk_at "at"))
  | ((with_reducible refine' Rd.brI ?vh ?_); (case vh => with_reducible exact rfl))
  | with_reducible refine' Rd.ifS ?_
  | with_reducible refine' Rd.test ?_
  | with_reducible refine' Rd.tbl ?_
  | with_reducible refine' Rd.bl ?_
  | with_reducible refine' Rd.brTT ?_
  | with_reducible refine' Rd.brFF ?_
  | with_reducible refine' Rd.brN ?_
  | ((with_reducible refine' Rd.aug ?vh ?_); (case vh => exact rfl))
  | with_reducible refine' Rd.ipI ?_
  | with_reducible refine' Rd.blV ?_
  | with_reducible refine' Rd.notVL ?_
  | with_reducible refine' Rd.andT ?_
  | with_reducible refine' Rd.orT ?_
  | with_reducible refine' Rd.notT ?_
  | with_reducible refine' Rd.andV ?_
  | with_reducible refine' Rd.orV ?_
  | with_reducible refine' Rd.notV ?_
  | with_reducible refine' Rd.ifE ?_
  | ((with_reducible refine' Rd.eqS ?vh ?_); (case vh => exact rfl))
  | ((with_reducible refine' Rd.neS ?vh ?_); (case vh => exact rfl))
  | with_reducible refine' Rd.par ?_
  | with_reducible refine' Rd.parL ?_
  | with_reducible refine' Rd.un ?_
  | with_reducible refine' Rd.u1 ?_
  | with_reducible refine' Rd.sub ?_
  | ((with_reducible refine' Rd.setL ?v1 ?v2 ?v3 ?v4 ?v5 ?_); (case v1 => assumption); (case v2 => walk_at "mem"); (case v3 => walk_at "at"); (case v4 => walk_at "put"); (case v5 => walk_at "own"); intro _ _)
  | with_reducible refine' Rd.tup ?_
  | with_reducible refine' Rd.lst ?_
  | ((with_reducible refine' Rd.tupN ?v1 ?v2 ?_); (case v1 => assumption); (case v2 => simp only [List.length_cons, List.length_nil]; decide); intro _ _ _ _)
  | ((with_reducible refine' Rd.lstN ?v1 ?v2 ?_); (case v1 => assumption); (case v2 => simp only [List.length_cons, List.length_nil]; decide); intro _ _ _ _)
  | with_reducible refine' Rd.ret ?_
  | with_reducible refine' Rd.drop ?_
  | with_reducible refine' Rd.retN ?_
  | with_reducible refine' Rd.next ?_
  | with_reducible refine' Rd.brk ?_
  | with_reducible refine' Rd.cont ?_
  | with_reducible refine' Rd.call ?_
  | walk_at "ask"
  | with_reducible refine' Rd.bm ?_
  | ((with_reducible refine' Rd.bmL ?v1 ?v2 ?_); (case v1 => assumption); (case v2 => walk_at "mem"))
  | ((with_reducible refine' Rd.app ?v1 ?v2 ?v3 ?v4 ?v5 ?_); (case v1 => assumption); (case v2 => walk_at "mem"); (case v3 => simp only [List.length_cons, List.length_nil, List.length_append]; omega); (case v4 => walk_at "put"); (case v5 => walk_at "own"); intro _ _)
  | with_reducible refine' Rd.asgT ?_
  | ((with_reducible refine' Rd.gtup ?v1 ?v2 ?v3 ?_); (case v1 => assumption); (case v2 => walk_at "mem"); (case v3 => exact rfl))
  | with_reducible refine' Rd.gcons ?_
  | with_reducible refine' Rd.gname ?_
  | with_reducible refine' Rd.gnil ?_
  | with_reducible refine' Rd.sl ?_
  | with_reducible refine' Rd.noPart ?_
  | with_reducible refine' Rd.part ?_
  | with_reducible refine' Rd.prt ?_
  | with_reducible refine' Rd.isB ?_
  | ((with_reducible refine' Rd.wp ?vh ?_); (case vh => exact rfl))
  | with_reducible refine' Rd.makeK ?_
  | with_reducible refine' Rd.meth ?_
  | ((with_reducible refine' Rd.catL ?v1 ?v2 ?v3 ?v4 ?_); (case v1 => assumption); (case v2 => walk_at "mem"); (case v3 => walk_at "mem"); (case v4 => simp only [List.length_cons, List.length_nil, List.length_append]; omega); intro _ _ _ _)
  | with_reducible refine' Rd.dnew ?_
  | ((with_reducible refine' Rd.dnewL ?v1 ?_); (case v1 => assumption); intro _ _ _ _)
  | with_reducible refine' Rd.lc ?_
  | with_reducible refine' Rd.wZ ?_
  | with_reducible refine' Rd.tYesH ?_
  | with_reducible refine' Rd.fmt ?_
  | with_reducible refine' Rd.joined ?_
  | with_reducible refine' Rd.jsNil ?_
  | with_reducible refine' Rd.jsCons ?_
  | ((with_reducible refine' Rd.isiT ?v1 ?v2 ?v3 ?v4 ?v5 ?_); (case v1 => assumption); (case v2 => walk_at "mem"); (case v3 => walk_at "ty"); (case v4 => first | exact .cons (.ty _) (.cons (.ty _) .nil) | exact .cons (.ty _) (.cons (.ty _) (.cons (.ty _) (.cons (.ty _) .nil))) | exact .cons (.ty _) (.cons (.ty _) (.cons (.ty _) .nil))); (case v5 => walk_at "kitA"))
  | with_reducible refine' Rd.forS ?_
  | with_reducible refine' Rd.wEnT ?_
  | ((with_reducible refine' Rd.wEnTL ?v1 ?v2 ?_); (case v1 => assumption); (case v2 => walk_at "mem"))
  | with_reducible refine' Rd.wL ?_
  | ((with_reducible refine' Rd.wLL ?v1 ?v2 ?_); (case v1 => assumption); (case v2 => walk_at "mem"))
  | with_reducible refine' Rd.wT ?_
  | ((with_reducible refine' Rd.wTL ?v1 ?v2 ?_); (case v1 => assumption); (case v2 => walk_at "mem"))
  | with_reducible refine' Rd.wR1 ?_
  | ((with_reducible refine' Rd.wR1L ?v1 ?v2 ?_); (case v1 => omega); (case v2 => omega))
  | with_reducible refine' Rd.wR2 ?_
  | ((with_reducible refine' Rd.wR2L ?v1 ?_); (case v1 => omega)))
local macro_rules | `(tactic| walk_at "rd") => `(tactic| repeat (walk_at "rd1"))

local macro_rules | `(tactic| walk_at "ask") => `(tactic| ((with_reducible refine' fill_ask ?v1 ?v2 ?v3 ?v4 ?v5 ?_); (case v1 => assumption); (case v2 => walk_at "mem"); (case v3 => walk_at "mem"); (case v4 => assumption); (case v5 => walk_at "own"); intro _ _))

local macro_rules | `(tactic| walk_at "ask") => `(tactic| ((with_reducible refine' take_ask ?v1 ?v2 ?v3 ?v4 ?v5 ?v6 ?_); (case v1 => assumption); (case v2 => walk_at "mem"); (case v3 => walk_at "mem"); (case v4 => assumption); (case v5 => walk_at "own"); (case v6 => first | decide | omega); intro _ _ _ _))
local macro_rules | `(tactic| walk_at "ask") => `(tactic| ((with_reducible refine' one_ask ?v1 ?v2 ?v3 ?v4 ?v5 ?_); (case v1 => assumption); (case v2 => walk_at "subl"); (case v3 => assumption); (case v4 => walk_at "own"); (case v5 => simp only [List.length_append, List.length_cons, List.length_nil]; decide); intro _ _ _ _))
local macro_rules | `(tactic| walk_at "ask") => `(tactic| ((with_reducible refine' fig_ask ?v1 ?v2 ?v3 ?v4 ?_); (case v1 => assumption); (case v2 => walk_at "subl"); (case v3 => assumption); (case v4 => walk_at "own"); intro _ _ _ _))
local macro_rules | `(tactic| walk_at "ask") => `(tactic| ((with_reducible refine' low_ask ?v1 ?v2 ?v3 ?v4 ?_); (case v1 => assumption); (case v2 => first | assumption | omega); (case v3 => omega); (case v4 => omega); intro _ _ _ _))
local macro_rules | `(tactic| walk_at "ask") => `(tactic| ((with_reducible refine' frac_ask ?v1 ?v2 ?v3 ?v4 ?_); (case v1 => assumption); (case v2 => walk_at "subl"); (case v3 => assumption); (case v4 => walk_at "own"); intro _ _ _ _ _ _ _))

local macro_rules | `(tactic| walk_at "ask") => `(tactic| with_reducible refine' isI_int ?_)
local macro_rules | `(tactic| walk_at "ask") => `(tactic| ((with_reducible refine' mk_span ?v1 ?v2 ?v3 ?_); (case v1 => assumption); (case v2 => first | assumption | omega); (case v3 => first | assumption | omega); intro _ _ _ _))
local macro_rules | `(tactic| walk_at "ask") => `(tactic| ((with_reducible refine' mk_span1 ?v1 ?_); (case v1 => assumption); intro _ _ _ _))
local macro_rules | `(tactic| walk_at "ask") => `(tactic| ((with_reducible refine' fld_over ?v1 ?v2 ?v3 ?v4 ?_); (case v1 => assumption); (case v2 => assumption); (case v3 => assumption); (case v4 => walk_at "mem")))
local macro_rules | `(tactic| walk_at "ask") => `(tactic| ((with_reducible refine' fld_under ?v1 ?v2 ?v3 ?v4 ?_); (case v1 => assumption); (case v2 => assumption); (case v3 => assumption); (case v4 => walk_at "mem")))
local macro_rules | `(tactic| walk_at "ty") => `(tactic| exact span_ty (by assumption) (by assumption) (by walk_at "mem"))

local macro_rules | `(tactic| walk_at "ask") => `(tactic| with_reducible refine' Rd.bmS ?_)
local macro_rules | `(tactic| walk_at "ask") => `(tactic| with_reducible refine' Rd.stw ?_)
local macro_rules | `(tactic| walk_at "ask") => `(tactic| ((with_reducible refine' Rd.rmp ?v1 ?_); (case v1 => omega)))
local macro_rules | `(tactic| walk_at "ask") => `(tactic| with_reducible refine' Rd.inSg ?_)
local macro_rules | `(tactic| walk_at "ask") => `(tactic| with_reducible refine' Rd.wS ?_)
local macro_rules | `(tactic| walk_at "ask") => `(tactic| with_reducible refine' Rd.wSL ?_)

section
variable {P : Program} {w : World} {K : PySem.W.Frag} {mg : Str → Option Value} {base : Heap}
theorem strS_eq {a b : List Nat} : (V.str (SX.S a) = V.str (SX.S b)) ↔ a = b := ⟨fun e => SX.S_inj (V.str.inj e), fun e => by rw [e]⟩
theorem takeS {f : Nat → V} {a : List Nat} {i : Nat} {c : Nat} (h : a[i]? = some c) : (a.take (i + 1)).map f = (a.take i).map f ++ [f c] := by
  rw [List.take_add_one, h, List.map_append]
  rfl
theorem signS {a : List Nat} {i c : Nat} (h : (SX.S a).cps[i]? = some c) : a[i]? = some c := by
  have : (SX.S a).cps.toList[i]? = some c := by simpa using h
  exact this
theorem sizeS (a : List Nat) : (SX.S a).cps.size = a.length := SX.S_len a
theorem inDig (c : Nat) : decide (c ∈ (Str.ofString "0123456789").cps.toList) = dig c := by
  rw [lit]
  exact dig_mem c
theorem inDigL (c : Nat) : decide (c ∈ (SX.S [48, 49, 50, 51, 52, 53, 54, 55, 56, 57]).cps.toList) = dig c := dig_mem c
theorem all_id {a : List Nat} {f : Nat → Bool} : (a.map f).all id = a.all f := by simp [List.all_map]
theorem bl_map {a : List Nat} {f : Nat → Bool} : (a.map fun c => V.bl (f c)) = (a.map f).map V.bl := by rw [List.map_map]; rfl
/-- is_numeral(text) -/
def spFigs : Sp := fun vs H Q _ => ∃ a : List Nat, vs = [TS a] ∧ a.length ≤ 500 ∧ ∀ H', Kp [] H H' → Q (.bl (figs a)) H'
theorem ok_is_numeral (T : Txt K mg) : FnOk P w K mg base CX0 1 (He.fAd K ("is_numeral", none)) T.fd_is_numeral ["text"] spFigs := by
  refine T.F_is_numeral.ok sc_is_numeral (fun vs H Q E h => ?_) (fun cdv A outer s H vs Q E hr h => ?_)
  · obtain ⟨a, rfl, _⟩ := h
    rfl
  · obtain ⟨a, rfl, hl, k⟩ := h
    refine ⟨_, PSs.nox (pss_cons (ps_if (PW.pt (pw_or (pt_cmpR op_eq (pv 0) (Lt.pe_strL (l := []) (by decide +kernel)) (nomark _)) (pw_or1 (pt_not (pt_val (pe_callB (cr_all rfl) (by rfl) T.n_all (by decide +kernel) (pa_cons (pe_lc (own := [("digit", 1)]) (g := gName 1) (tt := tYes) (by rfl) sc_is_numeral.nd (pi_str (pv 0)) (blkOk_by (own := [("digit", 1)]) (N := ["text", "digit"]) (sc := defScope s_is_numeral) (by decide +kernel)) (fun _ _ _ _ _ => (pg_name (i := 1) sc_is_numeral.nd rfl (by first | exact Or.inl rfl | exact Or.inr rfl))) (fun _ _ _ _ _ => pts_nil) (fun _ _ _ _ _ => (pe_cmpR (show OpR _ (compareOp .In) rInSg from op_inSg) (pv 1) (Lt.pe_globS rfl T.g_DIGITS) (by rfl)))) pa_nil))))))) (pss_one (ps_ret pe_bl))
   pss_nil)
  (pss_one (ps_ret (pe_or (pe_cmpR op_eq (pv 0) (Lt.pe_strL (l := [48]) (by decide +kernel)) (nomark _)) (pe_one (pe_not (pe_bm PySem.F.plainAttrs_str PySem.F.slot_str_startswith PySem.F.type_str_startswith mt_startswithQ (pv 0) (pa_cons (Lt.pe_strL (l := [48]) (by decide +kernel)) pa_nil)))))))), ?_⟩
    walk_at "k"
    walk_at "rd"
    refine Rd.brD (fun e => ?_) (fun e => ?_)
    · have e1 : a = [] := strS_eq.mp e
      subst e1
      walk_at "rd"
      exact k _ (.refl _)
    · have e1 : a ≠ [] := fun z => e (strS_eq.mpr z)
      walk_at "rd"
      have s0 : Stt H [] [] H := Stt.nil
      refine Rd.lcG (walk_str (z := SX.S a)) s0 (fun i acc ex => ex = [] ∧ acc = (a.take i).map fun c => V.bl (dig c)) ⟨rfl, rfl⟩ (fun _ _ _ _ _ _ => trivial) ?_ ?_
      · rintro D hD i x HA HB acc ex hi ⟨rfl, rfl⟩ hac s22 ⟨rfl, c, hc, rfl⟩
        rw [sizeS] at hi
        walk_at "rd"
        rw [inDig]
        exact Rd.lcE s22 hD (by omega) hac ⟨rfl, (takeS (f := fun c => V.bl (dig c)) (signS hc)).symm⟩
      · rintro D HA acc ex hD ⟨rfl, rfl⟩ s22
        rw [sizeS, List.take_length, bl_map] at s22
        walk_at "rd"
        refine Rd.allL s22 (by walk_at "mem") ?_
        rw [all_id]
        walk_at "rd"
        refine Rd.br (fun e2 => ?_) (fun e2 => ?_)
        · walk_at "rd"
          refine Rd.brD (fun e3 => ?_) (fun e3 => ?_)
          · have z := k _ s22.keep
            rw [strS_eq.mp e3] at z
            exact z
          · walk_at "rd"
            have z := k _ s22.keep
            have e4 : a ≠ [48] := fun q => e3 (strS_eq.mpr q)
            have e5 : figs a = !decide (a.head? = some 48) := by
              unfold figs
              rw [e2, decide_eq_false e4, decide_eq_true e1]
              simp
            rw [e5] at z
            exact z
        · walk_at "rd"
          have z := k _ s22.keep
          have e5 : figs a = false := by
            unfold figs
            rw [e2]
            rfl
          rw [e5] at z
          exact z
/-- numeral_value(text) -/
def spVal : Sp := fun vs H Q _ => ∃ a : List Nat, vs = [TS a] ∧ a.length ≤ 500 ∧ a.all dig = true ∧ ∀ H', Kp [] H H' → Q (.int ((NumText.digitsVal a : Nat) : Int)) H'
theorem ok_numeral_value (T : Txt K mg) : FnOk P w K mg base CX0 1 (He.fAd K ("numeral_value", none)) T.fd_numeral_value ["text"] spVal := by
  refine T.F_numeral_value.ok sc_numeral_value (fun vs H Q E h => ?_) (fun cdv A outer s H vs Q E hr h => ?_)
  · obtain ⟨a, rfl, _⟩ := h
    rfl
  · obtain ⟨a, rfl, hl, hd, k⟩ := h
    refine ⟨_, PSs.nox (pss_cons (ps_asg pe_int (pg_name (i := 1) sc_numeral_value.nd rfl (by first | exact Or.inl rfl | exact Or.inr rfl)))
  (pss_cons (ps_for PassesOwn.never rfl (pi_str (pv 0)) (pg_name (i := 2) sc_numeral_value.nd rfl (by first | exact Or.inl rfl | exact Or.inr rfl))
   (pss_one (ps_asg (pe_op op_add (pe_op op_mul (pv 1) pe_int) (pe_bm PySem.F.plainAttrs_str PySem.F.slot_str_index PySem.F.type_str_index mt_sindexQ (Lt.pe_globS rfl T.g_DIGITS) (pa_cons (pv 2) pa_nil))) (pg_name (i := 1) sc_numeral_value.nd rfl (by first | exact Or.inl rfl | exact Or.inr rfl)))))
  (pss_one (ps_ret (pv 1))))), ?_⟩
    walk_at "k"
    walk_at "rd"
    refine Rd.loop (walk_str (z := SX.S a)) (fun i σ H' => (∃ v, σ = [some (TS a), some (.int ((NumText.digitsVal (a.take i) : Nat) : Int)), v]) ∧ H = H') ⟨⟨_, rfl⟩, rfl⟩ (fun _ _ _ _ _ => trivial) ?_ ?_
    · rintro i x σ H2 H3 hi ⟨⟨v, rfl⟩, rfl⟩ ⟨rfl, c, hc, rfl⟩
      have hc' := signS hc
      have hdc : dig c = true := List.all_eq_true.mp hd c (List.mem_of_getElem? hc')
      walk_at "rd"
      refine Rd.sidx (index_dig hdc) ?_
      walk_at "rd"
      refine ⟨⟨some (.str ⟨#[c]⟩), ?_⟩, rfl⟩
      rw [List.take_add_one, hc']
      show _ = [some (TS a), some (.int ((NumText.digitsVal (a.take i ++ [c]) : Nat) : Int)), some (.str ⟨#[c]⟩)]
      rw [NumText.digitsVal_snoc]
      rfl
    · rintro σ H2 ⟨⟨v, rfl⟩, rfl⟩
      rw [sizeS, List.take_length]
      walk_at "rd"
      exact k _ (.refl _)
end

end
section
local macro_rules | `(tactic| walk_at "subl") => `(tactic| first | with_reducible exact List.nil_sublist _ | with_reducible exact List.Sublist.refl _ | (with_reducible refine List.Sublist.cons₂ _ ?_; walk_at "subl") | (with_reducible refine List.Sublist.cons _ ?_; walk_at "subl"))
local macro_rules | `(tactic| walk_at "k") => `(tactic| try dsimp only [L2.cxOf, L2.Cx.nox, L2.Cx.wish, L2.Cx.blk])
local macro_rules | `(tactic| walk_at "ask") => `(tactic| fail)
local macro_rules | `(tactic| walk_at "mem") => `(tactic| first | with_reducible exact List.mem_cons_self | (with_reducible apply List.mem_cons_of_mem; walk_at "mem"))
local macro_rules | `(tactic| walk_at "put") => `(tactic| first | with_reducible exact Lt.Put.head | (with_reducible apply Lt.Put.tail; walk_at "put"))
local macro_rules | `(tactic| walk_at "own") => `(tactic| first | exact Or.inr (by assumption) | exact Or.inl (by walk_at "mem"))
local macro_rules | `(tactic| walk_at "cnd") => `(tactic| first | assumption | decide | ((try dsimp only); omega) | (unfold CMul; omega) | (unfold CDiv; omega) | (unfold CPow; omega) | exact Or.inr (by decide) | exact Or.inl (by decide) | exact wide_div (b := 128) (by omega) (by omega) (by decide) (by decide))
local macro_rules | `(tactic| walk_at "at") => `(tactic| first | exact rfl | assumption)
local macro_rules | `(tactic| walk_at "kit") => `(tactic| first | assumption | exact kit_int_int | exact kit_int_bool | exact kit_int_str | exact kit_int_list | exact kit_int_tuple | exact kit_int_dict | exact kit_bool_int | exact kit_bool_bool | exact kit_bool_str | exact kit_bool_list | exact kit_bool_tuple | exact kit_bool_dict | exact kit_str_int | exact kit_str_bool | exact kit_str_str | exact kit_str_list | exact kit_str_tuple | exact kit_str_dict | exact kit_list_int | exact kit_list_bool | exact kit_list_str | exact kit_list_list | exact kit_list_tuple | exact kit_list_dict | exact kit_tuple_int | exact kit_tuple_bool | exact kit_tuple_str | exact kit_tuple_list | exact kit_tuple_tuple | exact kit_tuple_dict | exact kit_dict_int | exact kit_dict_bool | exact kit_dict_str | exact kit_dict_list | exact kit_dict_tuple | exact kit_dict_dict | exact kit_NoneType_int | exact kit_NoneType_bool | exact kit_NoneType_str | exact kit_NoneType_list | exact kit_NoneType_tuple | exact kit_NoneType_dict)
local macro_rules | `(tactic| walk_at "kitA") => `(tactic| first | assumption | exact kitA_lt_int | exact kitA_lt_bool | exact kitA_lt_str | exact kitA_lt_list | exact kitA_lt_tuple | exact kitA_lt_dict | exact kitA_lt_NoneType | exact kitA_bilt_int | exact kitA_bilt_bool | exact kitA_bilt_str | exact kitA_bilt_list | exact kitA_bilt_tuple | exact kitA_bilt_dict | exact kitA_bilt_NoneType)
local macro_rules | `(tactic| walk_at "ty") => `(tactic| first | exact .base (.int _) | exact .base (.bl _) | exact .base (.str _) | exact .base .non | exact .base (.lst (Stt.get (by assumption) (by walk_at "mem"))) | exact .base (.tup (Stt.get (by assumption) (by walk_at "mem"))) | exact .base (.dK (Stt.get (by assumption) (by walk_at "mem"))) | exact sqL_ty (Stt.upL (by assumption) (by assumption)) | exact sqT_ty (Stt.upT (by assumption) (by assumption)) | exact InsT.ty (by assumption) (Stt.get (by assumption) (by walk_at "mem")) | assumption)
local macro_rules | `(tactic| walk_at "rd1") => `(tactic| first
  | with_reducible refine' Rd.seq ?_
  | with_reducible refine' Rd.asg ?_
  | ((with_reducible refine' Rd.var ?vh ?_); (case vh => exact rfl))
  | with_reducible refine' Rd.con ?_
  | with_reducible refine' Rd.op ?_
  | with_reducible refine' Rd.i0 ?_
  | ((with_reducible refine' Rd.ic ?vh ?_); (case vh => walk_at "cnd"))
  | ((with_reducible refine' Rd.ixL ?v1 ?v2 ?v3 ?_); (case v1 => assumption); (case v2 => walk_at "mem"); (case v3 => walk_at "at"))
  | ((with_reducible refine' Rd.ixT ?v1 ?v2 ?v3 ?_); (case v1 => assumption); (case v2 => walk_at "mem"); (case v3 => walk_at "at"))
  | ((with_reducible refine' Rd.ixD2 ?v1 ?v2 ?_); (case v1 => assumption); (case v2 => walk_at "mem"); intro _)
  | ((with_reducible refine' Rd.ixD3 ?v1 ?v2 ?_); (case v1 => assumption); (case v2 => walk_at "mem"); intro _)
  | ((with_reducible refine' Rd.setD2 ?v1 ?v2 ?v3 ?v4 ?_); (case v1 => assumption); (case v2 => walk_at "mem"); (case v3 => walk_at "put"); (case v4 => walk_at "own"); intro _ _)
  | ((with_reducible refine' Rd.isi ?v1 ?v2 ?v3 ?_); (case v1 => walk_at "ty"); (case v2 => first | exact ClsV.ty _ | exact ClsV.own _); (case v3 => walk_at "kit"))
  | with_reducible refine' Rd.fld ?_
  | ((with_reducible refine' Rd.fldI ?v1 ?v2 ?v3 ?v4 ?v5 ?_); (case v1 => assumption); (case v2 => walk_at "mem"); (case v3 => assumption); (case v4 => assumption); (case v5 => walk_at "at"))
  | with_reducible refine' Rd.sfld ?_
  | ((with_reducible refine' Rd.sfldI ?v1 ?v2 ?v3 ?v4 ?v5 ?v6 ?v7 ?_); (case v1 => assumption); (case v2 => walk_at "mem"); (case v3 => assumption); (case v4 => assumption); (case v5 => first | decide | (refine Nat.lt_of_le_of_lt (putF_len _ _ _) ?_; decide)); (case v6 => walk_at "put"); (case v7 => walk_at "own"); intro _ _)
  | with_reducible refine' Rd.make ?_
  | with_reducible refine' Rd.gcd ?_
  | with_reducible refine' Rd.cons ?_
  | with_reducible refine' Rd.nil ?_
  | with_reducible refine' Rd.cb ?_
  | with_reducible refine' Rd.intI ?_
  | with_reducible refine' Rd.absI ?_
  | ((with_reducible refine' Rd.lenL ?v1 ?v2 ?_); (case v1 => assumption); (case v2 => walk_at "mem"))
  | ((with_reducible refine' Rd.lenT ?v1 ?v2 ?_); (case v1 => assumption); (case v2 => walk_at "mem"))
  | ((with_reducible refine' Rd.lenBL ?v1 ?v2 ?v3 ?_); (case v1 => assumption); (case v2 => assumption); (case v3 => first | exact List.not_mem_nil | assumption))
  | ((with_reducible refine' Rd.lenBT ?v1 ?v2 ?v3 ?_); (case v1 => assumption); (case v2 => assumption); (case v3 => first | exact List.not_mem_nil | assumption))
  | ((with_reducible refine' Rd.ixBL ?v1 ?v2 ?v4 ?v3 ?_); (case v1 => assumption); (case v2 => assumption); (case v4 => first | exact List.not_mem_nil | assumption); (case v3 => walk_at "at"))
  | ((with_reducible refine' Rd.ixBT ?v1 ?v2 ?v4 ?v3 ?_); (case v1 => assumption); (case v2 => assumption); (case v4 => first | exact List.not_mem_nil | assumption); (case v3 => walk_at "at"))
  | ((with_reducible refine' Rd.brI ?vh ?_); (case vh => with_reducible exact rfl))
  | with_reducible refine' Rd.ifS ?_
  | with_reducible refine' Rd.test ?_
  | with_reducible refine' Rd.tbl ?_
  | with_reducible refine' Rd.bl ?_
  | with_reducible refine' Rd.brTT ?_
  | with_reducible refine' Rd.brFF ?_
  | with_reducible refine' Rd.brN ?_
  | ((with_reducible refine' Rd.aug ?vh ?_); (case vh => exact rfl))
  | with_reducible refine' Rd.ipI ?_
  | with_reducible refine' Rd.blV ?_
  | with_reducible refine' Rd.notVL ?_
  | with_reducible refine' Rd.andT ?_
  | with_reducible refine' Rd.orT ?_
  | with_reducible refine' Rd.notT ?_
  | with_reducible refine' Rd.andV ?_
  | with_reducible refine' Rd.orV ?_
  | with_reducible refine' Rd.notV ?_
  | with_reducible refine' Rd.ifE ?_
  | ((with_reducible refine' Rd.eqS ?vh ?_); (case vh => exact rfl))
  | ((with_reducible refine' Rd.neS ?vh ?_); (case vh => exact rfl))
  | with_reducible refine' Rd.par ?_
  | with_reducible refine' Rd.parL ?_
  | with_reducible refine' Rd.un ?_
  | with_reducible refine' Rd.u1 ?_
  | with_reducible refine' Rd.sub ?_
  | ((with_reducible refine' Rd.setL ?v1 ?v2 ?v3 ?v4 ?v5 ?_); (case v1 => assumption); (case v2 => walk_at "mem"); (case v3 => walk_at "at"); (case v4 => walk_at "put"); (case v5 => walk_at "own"); intro _ _)
  | with_reducible refine' Rd.tup ?_
  | with_reducible refine' Rd.lst ?_
  | ((with_reducible refine' Rd.tupN ?v1 ?v2 ?_); (case v1 => assumption); (case v2 => simp only [List.length_cons, List.length_nil]; decide); intro _ _ _ _)
  | ((with_reducible refine' Rd.lstN ?v1 ?v2 ?_); (case v1 => assumption); (case v2 => simp only [List.length_cons, List.length_nil]; decide); intro _ _ _ _)
  | with_reducible refine' Rd.ret ?_
  | with_reducible refine' Rd.drop ?_
  | with_reducible refine' Rd.retN ?_
  | with_reducible refine' Rd.next ?_
  | with_reducible refine' Rd.brk ?_
  | with_reducible refine' Rd.cont ?_
  | with_reducible refine' Rd.call ?_
  | walk_at "ask"
  | with_reducible refine' Rd.bm ?_
  | ((with_reducible refine' Rd.bmL ?v1 ?v2 ?_); (case v1 => assumption); (case v2 => walk_at "mem"))
  | ((with_reducible refine' Rd.app ?v1 ?v2 ?v3 ?v4 ?v5 ?_); (case v1 => assumption); (case v2 => walk_at "mem"); (case v3 => simp only [List.length_cons, List.length_nil, List.length_append]; omega); (case v4 => walk_at "put"); (case v5 => walk_at "own"); intro _ _)
  | with_reducible refine' Rd.asgT ?_
  | ((with_reducible refine' Rd.gtup ?v1 ?v2 ?v3 ?_); (case v1 => assumption); (case v2 => walk_at "mem"); (case v3 => exact rfl))
  | with_reducible refine' Rd.gcons ?_
  | with_reducible refine' Rd.gname ?_
  | with_reducible refine' Rd.gnil ?_
  | with_reducible refine' Rd.sl ?_
  | with_reducible refine' Rd.noPart ?_
  | with_reducible refine' Rd.part ?_
  | with_reducible refine' Rd.prt ?_
  | with_reducible refine' Rd.isB ?_
  | ((with_reducible refine' Rd.wp ?vh ?_); (case vh => exact rfl))
  | with_reducible refine' Rd.makeK ?_
  | with_reducible refine' Rd.meth ?_
  | ((with_reducible refine' Rd.catL ?v1 ?v2 ?v3 ?v4 ?_); (case v1 => assumption); (case v2 => walk_at "mem"); (case v3 => walk_at "mem"); (case v4 => simp only [List.length_cons, List.length_nil, List.length_append]; omega); intro _ _ _ _)
  | with_reducible refine' Rd.dnew ?_
  | ((with_reducible refine' Rd.dnewL ?v1 ?_); (case v1 => assumption); intro _ _ _ _)
  | with_reducible refine' Rd.lc ?_
  | with_reducible refine' Rd.wZ ?_
  | with_reducible refine' Rd.tYesH ?_
  | with_reducible refine' Rd.fmt ?_
  | with_reducible refine' Rd.joined ?_
  | with_reducible refine' Rd.jsNil ?_
  | with_reducible refine' Rd.jsCons ?_
  | ((with_reducible refine' Rd.isiT ?v1 ?v2 ?v3 ?v4 ?v5 ?_); (case v1 => assumption); (case v2 => walk_at "mem"); (case v3 => walk_at "ty"); (case v4 => first | exact .cons (.ty _) (.cons (.ty _) .nil) | exact .cons (.ty _) (.cons (.ty _) (.cons (.ty _) (.cons (.ty _) .nil))) | exact .cons (.ty _) (.cons (.ty _) (.cons (.ty _) .nil))); (case v5 => walk_at "kitA"))
  | with_reducible refine' Rd.forS ?_
  | with_reducible refine' Rd.wEnT ?_
  | ((with_reducible refine' Rd.wEnTL ?v1 ?v2 ?_); (case v1 => assumption); (case v2 => walk_at "mem"))
  | with_reducible refine' Rd.wL ?_
  | ((with_reducible refine' Rd.wLL ?v1 ?v2 ?_); (case v1 => assumption); (case v2 => walk_at "mem"))
  | with_reducible refine' Rd.wT ?_
  | ((with_reducible refine' Rd.wTL ?v1 ?v2 ?_); (case v1 => assumption); (case v2 => walk_at "mem"))
  | with_reducible refine' Rd.wR1 ?_
  | ((with_reducible refine' Rd.wR1L ?v1 ?v2 ?_); (case v1 => omega); (case v2 => omega))
  | with_reducible refine' Rd.wR2 ?_
  | ((with_reducible refine' Rd.wR2L ?v1 ?_); (case v1 => omega)))
local macro_rules | `(tactic| walk_at "rd") => `(tactic| repeat (walk_at "rd1"))

local macro_rules | `(tactic| walk_at "ask") => `(tactic| ((with_reducible refine' fill_ask ?v1 ?v2 ?v3 ?v4 ?v5 ?_); (case v1 => assumption); (case v2 => walk_at "mem"); (case v3 => walk_at "mem"); (case v4 => assumption); (case v5 => walk_at "own"); intro _ _))

local macro_rules | `(tactic| walk_at "ask") => `(tactic| ((with_reducible refine' take_ask ?v1 ?v2 ?v3 ?v4 ?v5 ?v6 ?_); (case v1 => assumption); (case v2 => walk_at "mem"); (case v3 => walk_at "mem"); (case v4 => assumption); (case v5 => walk_at "own"); (case v6 => first | decide | omega); intro _ _ _ _))
local macro_rules | `(tactic| walk_at "ask") => `(tactic| ((with_reducible refine' one_ask ?v1 ?v2 ?v3 ?v4 ?v5 ?_); (case v1 => assumption); (case v2 => walk_at "subl"); (case v3 => assumption); (case v4 => walk_at "own"); (case v5 => simp only [List.length_append, List.length_cons, List.length_nil]; decide); intro _ _ _ _))
local macro_rules | `(tactic| walk_at "ask") => `(tactic| ((with_reducible refine' fig_ask ?v1 ?v2 ?v3 ?v4 ?_); (case v1 => assumption); (case v2 => walk_at "subl"); (case v3 => assumption); (case v4 => walk_at "own"); intro _ _ _ _))
local macro_rules | `(tactic| walk_at "ask") => `(tactic| ((with_reducible refine' low_ask ?v1 ?v2 ?v3 ?v4 ?_); (case v1 => assumption); (case v2 => first | assumption | omega); (case v3 => omega); (case v4 => omega); intro _ _ _ _))
local macro_rules | `(tactic| walk_at "ask") => `(tactic| ((with_reducible refine' frac_ask ?v1 ?v2 ?v3 ?v4 ?_); (case v1 => assumption); (case v2 => walk_at "subl"); (case v3 => assumption); (case v4 => walk_at "own"); intro _ _ _ _ _ _ _))

local macro_rules | `(tactic| walk_at "ask") => `(tactic| with_reducible refine' isI_int ?_)
local macro_rules | `(tactic| walk_at "ask") => `(tactic| ((with_reducible refine' mk_span ?v1 ?v2 ?v3 ?_); (case v1 => assumption); (case v2 => first | assumption | omega); (case v3 => first | assumption | omega); intro _ _ _ _))
local macro_rules | `(tactic| walk_at "ask") => `(tactic| ((with_reducible refine' mk_span1 ?v1 ?_); (case v1 => assumption); intro _ _ _ _))
local macro_rules | `(tactic| walk_at "ask") => `(tactic| ((with_reducible refine' fld_over ?v1 ?v2 ?v3 ?v4 ?_); (case v1 => assumption); (case v2 => assumption); (case v3 => assumption); (case v4 => walk_at "mem")))
local macro_rules | `(tactic| walk_at "ask") => `(tactic| ((with_reducible refine' fld_under ?v1 ?v2 ?v3 ?v4 ?_); (case v1 => assumption); (case v2 => assumption); (case v3 => assumption); (case v4 => walk_at "mem")))
local macro_rules | `(tactic| walk_at "ty") => `(tactic| exact span_ty (by assumption) (by assumption) (by walk_at "mem"))

local macro_rules | `(tactic| walk_at "ask") => `(tactic| with_reducible refine' Rd.bmS ?_)
local macro_rules | `(tactic| walk_at "ask") => `(tactic| with_reducible refine' Rd.stw ?_)
local macro_rules | `(tactic| walk_at "ask") => `(tactic| ((with_reducible refine' Rd.rmp ?v1 ?_); (case v1 => omega)))
local macro_rules | `(tactic| walk_at "ask") => `(tactic| with_reducible refine' Rd.inSg ?_)
local macro_rules | `(tactic| walk_at "ask") => `(tactic| with_reducible refine' Rd.wS ?_)
local macro_rules | `(tactic| walk_at "ask") => `(tactic| with_reducible refine' Rd.wSL ?_)

section
variable {P : Program} {w : World} {K : PySem.W.Frag} {mg : Str → Option Value} {base : Heap}
theorem lg {a : Int} (h : a.natAbs < 2 ^ 1900) : a.natAbs.log2 < 1920 := Nat.lt_of_lt_of_le (PySem.Flt.log2_lt_of (by decide) h) (by decide)
/-- str(i), by its signs -/
theorem strS {i : Int} {H : Hp} {Q : VK} (hz : i.natAbs.log2 < 1920) (h : Q (TS (intL i)) H) : Rd.rStrQ [.int i] H Q := Rd.strI hz (by rw [show (toString i : String) = toString i from rfl, int_S' i]; exact h)
theorem intL_len {i : Int} {k : Nat} (hk : 0 < k) (h : i.natAbs < 10 ^ k) : (intL i).length ≤ k + 1 := by
  unfold intL
  have z := TL.numL_len hk h
  split
  · simp only [List.length_cons]; omega
  · omega
theorem txt_len {x y : Int} {j k : Nat} (hj : 0 < j) (hk : 0 < k) (h1 : x.natAbs < 10 ^ j) (h2 : y.natAbs < 10 ^ k) : (txt x y).length ≤ j + k + 2 := by
  unfold txt
  have z1 := intL_len hj h1
  have z2 := TL.numL_len hk h2
  rw [List.length_append]
  split
  · simp only [List.length_nil]; omega
  · simp only [List.length_cons]; omega
theorem intL_pos {y : Int} (h : 0 < y) : intL y = TL.numL y.natAbs := by
  unfold intL
  rw [if_neg (by omega)]
theorem txt_1 (x : Int) : txt x 1 = intL x := by
  unfold txt
  rw [if_pos rfl, List.append_nil]
theorem txt_2 {x y : Int} (h : 0 < y) (h1 : y ≠ 1) : txt x y = intL x ++ [47] ++ intL y := by
  unfold txt
  rw [if_neg h1, intL_pos h, List.append_assoc]
  rfl
/-- span.text() -/
def spText (K : PySem.W.Frag) : Sp := fun vs H Q _ => ∃ (p : Addr) (a b : Int), vs = [.ref p] ∧ (∃ o, H p = some o ∧ SpanO K a b o) ∧ 0 < b ∧ a.natAbs < 10 ^ 100 ∧ b.natAbs < 10 ^ 100 ∧ Q (TS (txt a b)) H
theorem ok_Span_text (T : Txt K mg) : FnOk P w K mg base CX0 1 (He.fAd K ("Span", some "text")) T.fd_Span_text ["self"] (spText K) := by
  refine T.F_Span_text.ok sc_Span_text (fun vs H Q E h => ?_) (fun cdv A outer s H vs Q E hr h => ?_)
  · obtain ⟨p, a, b, rfl, _⟩ := h
    rfl
  · obtain ⟨p, a, b, rfl, ⟨o, h1, h2⟩, hb, b1, b2, k⟩ := h
    refine ⟨_, PSs.nox (pss_cons (ps_if (pt_cmpR op_eq (pe_fld (pv 0) rfl) pe_int (nomark _)) (pss_one (ps_ret (pe_callTy call_strQ (by rfl) T.n_str (by decide +kernel) (pa_cons (pe_fld (pv 0) rfl) pa_nil))))
   pss_nil)
  (pss_one (ps_ret (pe_joined (.cons (pe_fmt (pe_fld (pv 0) rfl)) (.cons (Lt.pe_strL (l := [47]) (by decide +kernel)) (.cons (pe_fmt (pe_fld (pv 0) rfl)) .nil))))))), ?_⟩
    walk_at "k"
    have c1 := T.c_Span
    have c2 := T.a_Span_over
    have c3 := T.a_Span_under
    have l1 := lg (a := a) (Nat.lt_of_lt_of_le b1 (by decide))
    have l2 := lg (a := b) (Nat.lt_of_lt_of_le b2 (by decide))
    have s0 : Stt H [] [(p, SpanO K a b)] H := ⟨.refl H, by simp, fun e m => by rw [List.mem_singleton.mp m]; exact ⟨o, h1, h2⟩⟩
    walk_at "rd"
    refine Rd.brD (fun e => ?_) (fun e => ?_)
    · walk_at "rd"
      refine strS l1 ?_
      have e1 : b = 1 := V.int.inj e
      rw [e1, txt_1] at k
      exact k
    · have e1 : b ≠ 1 := fun z => e (congrArg V.int z)
      rw [txt_2 hb e1] at k
      have z1 := intL_len (i := a) (k := 100) (by decide) b1
      have z2 := intL_len (i := b) (k := 100) (by decide) b2
      walk_at "rd"
      refine Rd.fmtI l1 ?_
      rw [int_S']
      have hz : ∀ n : Nat, n ≤ 5000 → n ≤ sizeLine := fun n h => Nat.le_trans h (by decide)
      have z0 : (Str.empty : Str) = SX.S [] := rfl
      rw [z0]
      refine Rd.jsL (hz _ (by rw [SX.S_cat, SX.S_len]; simp; omega)) ?_
      rw [SX.S_cat]
      walk_at "rd"
      refine Rd.jsL (hz _ (by rw [SX.S_cat, SX.S_len]; simp; omega)) ?_
      rw [SX.S_cat]
      walk_at "rd"
      refine Rd.fmtI l2 ?_
      rw [int_S']
      refine Rd.jsL (hz _ (by rw [SX.S_cat, SX.S_len]; simp; omega)) ?_
      rw [SX.S_cat]
      walk_at "rd"
      exact k
theorem text_ask {H0 H : Hp} {S : List Addr} {l : Led} {p : Addr} {a b : Int} {Q : VK} {E : XK} (c : Cls K (He.ga K "Span")) (s : Stt H0 S l H) (m : (p, SpanO K a b) ∈ l) (hb : 0 < b) (b1 : a.natAbs < 10 ^ 100) (b2 : b.natAbs < 10 ^ 100) (k : Q (TS (txt a b)) H) :
    spText K ([.ref p] ++ []) H Q E := ⟨p, a, b, rfl, s.pick m, hb, b1, b2, k⟩
/-- the law's own text of a number -/
def spLTxt (K : PySem.W.Frag) : Sp := fun vs H Q _ => ∃ (p : Addr) (a b : Int), vs = [.ref p] ∧ SqT K H p [.int a, .int b] ∧ 0 < b ∧ a.natAbs < 10 ^ 100 ∧ b.natAbs < 10 ^ 100 ∧ Q (TS (txt a b)) H
theorem ok_l_text (T : Txt K mg) : FnOk P w K mg base CX0 1 (He.fAd K ("_law_text", none)) T.fd_l_text ["_law_x"] (spLTxt K) := by
  refine T.F_l_text.ok sc_l_text (fun vs H Q E h => ?_) (fun cdv A outer s H vs Q E hr h => ?_)
  · obtain ⟨p, a, b, rfl, _⟩ := h
    rfl
  · obtain ⟨p, a, b, rfl, hq, hb, b1, b2, k⟩ := h
    refine ⟨_, PSs.nox (pss_one (ps_ret (pe_ifExp (pt_cmpR op_eq (pe_ix ix_tup (pv 0) pe_int (fun _ _ => rfl)) pe_int (nomark _)) (pe_callTy call_strQ (by rfl) T.n_str (by decide +kernel) (pa_cons (pe_ix ix_tup (pv 0) pe_int (fun _ _ => rfl)) pa_nil)) (pe_op op_addS (pe_op op_addS (pe_callTy call_strQ (by rfl) T.n_str (by decide +kernel) (pa_cons (pe_ix ix_tup (pv 0) pe_int (fun _ _ => rfl)) pa_nil)) (Lt.pe_strL (l := [47]) (by decide +kernel))) (pe_callTy call_strQ (by rfl) T.n_str (by decide +kernel) (pa_cons (pe_ix ix_tup (pv 0) pe_int (fun _ _ => rfl)) pa_nil)))))), ?_⟩
    walk_at "k"
    have s0 : Stt H [] [] H := Stt.nil
    have l1 := lg (a := a) (Nat.lt_of_lt_of_le b1 (by decide))
    have l2 := lg (a := b) (Nat.lt_of_lt_of_le b2 (by decide))
    walk_at "rd"
    refine Rd.brD (fun e => ?_) (fun e => ?_)
    · walk_at "rd"
      refine strS l1 ?_
      have e1 : b = 1 := V.int.inj e
      rw [e1, txt_1] at k
      exact k
    · have e1 : b ≠ 1 := fun z => e (congrArg V.int z)
      rw [txt_2 hb e1] at k
      have z1 := intL_len (i := a) (k := 100) (by decide) b1
      have z2 := intL_len (i := b) (k := 100) (by decide) b2
      walk_at "rd"
      refine strS l1 ?_
      walk_at "rd"
      refine Rd.addS (by simp; omega) ?_
      walk_at "rd"
      refine strS l2 ?_
      walk_at "rd"
      refine Rd.addS (by simp; omega) ?_
      exact k
/-- the law's own look at figures -/
theorem ok_l_is_figures (T : Txt K mg) : FnOk P w K mg base CX0 1 (He.fAd K ("_law_is_figures", none)) T.fd_l_is_figures ["_law_text_here"] spFigs := by
  refine T.F_l_is_figures.ok sc_l_is_figures (fun vs H Q E h => ?_) (fun cdv A outer s H vs Q E hr h => ?_)
  · obtain ⟨a, rfl, _⟩ := h
    rfl
  · obtain ⟨a, rfl, hl, k⟩ := h
    refine ⟨_, PSs.nox (pss_one (ps_ret (pe_or (pe_cmpR op_eq (pv 0) (Lt.pe_strL (l := [48]) (by decide +kernel)) (nomark _)) (pe_one (pe_and (pe_cmpR op_ne (pv 0) (Lt.pe_strL (l := []) (by decide +kernel)) (nomark _)) (pe_and (pe_cmpR op_ne (pe_ix ix_str (pv 0) pe_int (fun _ _ => rfl)) (Lt.pe_strL (l := [48]) (by decide +kernel)) (nomark _)) (pe_one (pe_callB (cr_all rfl) (by rfl) T.n_all (by decide +kernel) (pa_cons (pe_lc (own := [("_law_sign", 1)]) (g := gName 1) (tt := tYes) (by rfl) sc_l_is_figures.nd (pi_str (pv 0)) (blkOk_by (own := [("_law_sign", 1)]) (N := ["_law_text_here", "_law_sign"]) (sc := defScope s_l_is_figures) (by decide +kernel)) (fun _ _ _ _ _ => (pg_name (i := 1) sc_l_is_figures.nd rfl (by first | exact Or.inl rfl | exact Or.inr rfl))) (fun _ _ _ _ _ => pts_nil) (fun _ _ _ _ _ => (pe_cmpR (show OpR _ (compareOp .In) rInSg from op_inSg) (pv 1) (Lt.pe_strL (l := [48, 49, 50, 51, 52, 53, 54, 55, 56, 57]) (by decide +kernel)) (by rfl)))) pa_nil))))))))), ?_⟩
    walk_at "k"
    walk_at "rd"
    refine Rd.brD (fun e => ?_) (fun e => ?_)
    · have e1 : a = [48] := strS_eq.mp e
      subst e1
      exact k _ (.refl _)
    · have e1 : a ≠ [48] := fun z => e (strS_eq.mpr z)
      walk_at "rd"
      refine Rd.brD (fun e2 => ?_) (fun e2 => ?_)
      · have e3 : a = [] := strS_eq.mp e2
        subst e3
        exact k _ (.refl _)
      · have e3 : a ≠ [] := fun z => e2 (strS_eq.mpr z)
        obtain ⟨c0, r0, ea⟩ : ∃ c r, a = c :: r := by
          cases a with
          | nil => exact absurd rfl e3
          | cons c r => exact ⟨c, r, rfl⟩
        walk_at "rd"
        refine Rd.ixS (c := c0) (by omega) (by rw [ea]; exact atI_nat (j := 0) rfl) ?_
        walk_at "rd"
        refine Rd.brD (fun e4 => ?_) (fun e4 => ?_)
        · have e5 : c0 = 48 := by simpa using strS_eq.mp e4
          have z := k _ (.refl _)
          have e6 : figs a = false := by
            unfold figs
            rw [decide_eq_false e1, ea, e5]
            simp
          rw [e6] at z
          exact z
        · have e5 : c0 ≠ 48 := fun z => e4 (strS_eq.mpr (by rw [z]))
          walk_at "rd"
          have s0 : Stt H [] [] H := Stt.nil
          refine Rd.lcG (walk_str (z := SX.S a)) s0 (fun i acc ex => ex = [] ∧ acc = (a.take i).map fun c => V.bl (dig c)) ⟨rfl, rfl⟩ (fun _ _ _ _ _ _ => trivial) ?_ ?_
          · rintro D hD i x HA HB acc ex hi ⟨rfl, rfl⟩ hac s22 ⟨rfl, c, hc, rfl⟩
            rw [sizeS] at hi
            walk_at "rd"
            rw [inDigL]
            exact Rd.lcE s22 hD (by omega) hac ⟨rfl, (takeS (f := fun c => V.bl (dig c)) (signS hc)).symm⟩
          · rintro D HA acc ex hD ⟨rfl, rfl⟩ s22
            rw [sizeS, List.take_length, bl_map] at s22
            walk_at "rd"
            refine Rd.allL s22 (by walk_at "mem") ?_
            rw [all_id]
            have z := k _ s22.keep
            have e6 : figs a = a.all dig := by
              unfold figs
              have e7 : a.head? ≠ some 48 := by rw [ea]; simpa using e5
              rw [decide_eq_true e3, decide_eq_true e7]
              simp
            rw [e6] at z
            exact z
end

end
section
local macro_rules | `(tactic| walk_at "subl") => `(tactic| first | with_reducible exact List.nil_sublist _ | with_reducible exact List.Sublist.refl _ | (with_reducible refine List.Sublist.cons₂ _ ?_; walk_at "subl") | (with_reducible refine List.Sublist.cons _ ?_; walk_at "subl"))
local macro_rules | `(tactic| walk_at "k") => `(tactic| try dsimp only [L2.cxOf, L2.Cx.nox, L2.Cx.wish, L2.Cx.blk])
local macro_rules | `(tactic| walk_at "ask") => `(tactic| fail)
local macro_rules | `(tactic| walk_at "mem") => `(tactic| first | with_reducible exact List.mem_cons_self | (with_reducible apply List.mem_cons_of_mem; walk_at "mem"))
local macro_rules | `(tactic| walk_at "put") => `(tactic| first | with_reducible exact Lt.Put.head | (with_reducible apply Lt.Put.tail; walk_at "put"))
local macro_rules | `(tactic| walk_at "own") => `(tactic| first | exact Or.inr (by assumption) | exact Or.inl (by walk_at "mem"))
local macro_rules | `(tactic| walk_at "cnd") => `(tactic| first | assumption | decide | ((try dsimp only); omega) | (unfold CMul; omega) | (unfold CDiv; omega) | (unfold CPow; omega) | exact Or.inr (by decide) | exact Or.inl (by decide) | exact wide_div (b := 128) (by omega) (by omega) (by decide) (by decide))
local macro_rules | `(tactic| walk_at "at") => `(tactic| first | exact rfl | assumption)
local macro_rules | `(tactic| walk_at "kit") => `(tactic| first | assumption | exact kit_int_int | exact kit_int_bool | exact kit_int_str | exact kit_int_list | exact kit_int_tuple | exact kit_int_dict | exact kit_bool_int | exact kit_bool_bool | exact kit_bool_str | exact kit_bool_list | exact kit_bool_tuple | exact kit_bool_dict | exact kit_str_int | exact kit_str_bool | exact kit_str_str | exact kit_str_list | exact kit_str_tuple | exact kit_str_dict | exact kit_list_int | exact kit_list_bool | exact kit_list_str | exact kit_list_list | exact kit_list_tuple | exact kit_list_dict | exact kit_tuple_int | exact kit_tuple_bool | exact kit_tuple_str | exact kit_tuple_list | exact kit_tuple_tuple | exact kit_tuple_dict | exact kit_dict_int | exact kit_dict_bool | exact kit_dict_str | exact kit_dict_list | exact kit_dict_tuple | exact kit_dict_dict | exact kit_NoneType_int | exact kit_NoneType_bool | exact kit_NoneType_str | exact kit_NoneType_list | exact kit_NoneType_tuple | exact kit_NoneType_dict)
local macro_rules | `(tactic| walk_at "kitA") => `(tactic| first | assumption | exact kitA_lt_int | exact kitA_lt_bool | exact kitA_lt_str | exact kitA_lt_list | exact kitA_lt_tuple | exact kitA_lt_dict | exact kitA_lt_NoneType | exact kitA_bilt_int | exact kitA_bilt_bool | exact kitA_bilt_str | exact kitA_bilt_list | exact kitA_bilt_tuple | exact kitA_bilt_dict | exact kitA_bilt_NoneType)
local macro_rules | `(tactic| walk_at "ty") => `(tactic| first | exact .base (.int _) | exact .base (.bl _) | exact .base (.str _) | exact .base .non | exact .base (.lst (Stt.get (by assumption) (by walk_at "mem"))) | exact .base (.tup (Stt.get (by assumption) (by walk_at "mem"))) | exact .base (.dK (Stt.get (by assumption) (by walk_at "mem"))) | exact sqL_ty (Stt.upL (by assumption) (by assumption)) | exact sqT_ty (Stt.upT (by assumption) (by assumption)) | exact InsT.ty (by assumption) (Stt.get (by assumption) (by walk_at "mem")) | assumption)
local macro_rules | `(tactic| walk_at "rd1") => `(tactic| first
  | with_reducible refine' Rd.seq ?_
  | with_reducible refine' Rd.asg ?_
  | ((with_reducible refine' Rd.var ?vh ?_); (case vh => exact rfl))
  | with_reducible refine' Rd.con ?_
  | with_reducible refine' Rd.op ?_
  | with_reducible refine' Rd.i0 ?_
  | ((with_reducible refine' Rd.ic ?vh ?_); (case vh => walk_at "cnd"))
  | ((with_reducible refine' Rd.ixL ?v1 ?v2 ?v3 ?_); (case v1 => assumption); (case v2 => walk_at "mem"); (case v3 => walk_at "at"))
  | ((with_reducible refine' Rd.ixT ?v1 ?v2 ?v3 ?_); (case v1 => assumption); (case v2 => walk_at "mem"); (case v3 => walk_at "at"))
  | ((with_reducible refine' Rd.ixD2 ?v1 ?v2 ?_); (case v1 => assumption); (case v2 => walk_at "mem"); intro _)
  | ((with_reducible refine' Rd.ixD3 ?v1 ?v2 ?_); (case v1 => assumption); (case v2 => walk_at "mem"); intro _)
  | ((with_reducible refine' Rd.setD2 ?v1 ?v2 ?v3 ?v4 ?_); (case v1 => assumption); (case v2 => walk_at "mem"); (case v3 => walk_at "put"); (case v4 => walk_at "own"); intro _ _)
  | ((with_reducible refine' Rd.isi ?v1 ?v2 ?v3 ?_); (case v1 => walk_at "ty"); (case v2 => first | exact ClsV.ty _ | exact ClsV.own _); (case v3 => walk_at "kit"))
  | with_reducible refine' Rd.fld ?_
  | ((with_reducible refine' Rd.fldI ?v1 ?v2 ?v3 ?v4 ?v5 ?_); (case v1 => assumption); (case v2 => walk_at "mem"); (case v3 => assumption); (case v4 => assumption); (case v5 => walk_at "at"))
  | with_reducible refine' Rd.sfld ?_
  | ((with_reducible refine' Rd.sfldI ?v1 ?v2 ?v3 ?v4 ?v5 ?v6 ?v7 ?_); (case v1 => assumption); (case v2 => walk_at "mem"); (case v3 => assumption); (case v4 => assumption); (case v5 => first | decide | (refine Nat.lt_of_le_of_lt (putF_len _ _ _) ?_; decide)); (case v6 => walk_at "put"); (case v7 => walk_at "own"); intro _ _)
  | with_reducible refine' Rd.make ?_
  | with_reducible refine' Rd.gcd ?_
  | with_reducible refine' Rd.cons ?_
  | with_reducible refine' Rd.nil ?_
  | with_reducible refine' Rd.cb ?_
  | with_reducible refine' Rd.intI ?_
  | with_reducible refine' Rd.absI ?_
  | ((with_reducible refine' Rd.lenL ?v1 ?v2 ?_); (case v1 => assumption); (case v2 => walk_at "mem"))
  | ((with_reducible refine' Rd.lenT ?v1 ?v2 ?_); (case v1 => assumption); (case v2 => walk_at "mem"))
  | ((with_reducible refine' Rd.lenBL ?v1 ?v2 ?v3 ?_); (case v1 => assumption); (case v2 => assumption); (case v3 => first | exact List.not_mem_nil | assumption))
  | ((with_reducible refine' Rd.lenBT ?v1 ?v2 ?v3 ?_); (case v1 => assumption); (case v2 => assumption); (case v3 => first | exact List.not_mem_nil | assumption))
  | ((with_reducible refine' Rd.ixBL ?v1 ?v2 ?v4 ?v3 ?_); (case v1 => assumption); (case v2 => assumption); (case v4 => first | exact List.not_mem_nil | assumption); (case v3 => walk_at "at"))
  | ((with_reducible refine' Rd.ixBT ?v1 ?v2 ?v4 ?v3 ?_); (case v1 => assumption); (case v2 => assumption); (case v4 => first | exact List.not_mem_nil | assumption); (case v3 => walk_at "at"))
  | ((with_reducible refine' Rd.brI ?vh ?_); (case vh => with_reducible exact rfl))
  | with_reducible refine' Rd.ifS ?_
  | with_reducible refine' Rd.test ?_
  | with_reducible refine' Rd.tbl ?_
  | with_reducible refine' Rd.bl ?_
  | with_reducible refine' Rd.brTT ?_
  | with_reducible refine' Rd.brFF ?_
  | with_reducible refine' Rd.brN ?_
  | ((with_reducible refine' Rd.aug ?vh ?_); (case vh => exact rfl))
  | with_reducible refine' Rd.ipI ?_
  | with_reducible refine' Rd.blV ?_
  | with_reducible refine' Rd.notVL ?_
  | with_reducible refine' Rd.andT ?_
  | with_reducible refine' Rd.orT ?_
  | with_reducible refine' Rd.notT ?_
  | with_reducible refine' Rd.andV ?_
  | with_reducible refine' Rd.orV ?_
  | with_reducible refine' Rd.notV ?_
  | with_reducible refine' Rd.ifE ?_
  | ((with_reducible refine' Rd.eqS ?vh ?_); (case vh => exact rfl))
  | ((with_reducible refine' Rd.neS ?vh ?_); (case vh => exact rfl))
  | with_reducible refine' Rd.par ?_
  | with_reducible refine' Rd.parL ?_
  | with_reducible refine' Rd.un ?_
  | with_reducible refine' Rd.u1 ?_
  | with_reducible refine' Rd.sub ?_
  | ((with_reducible refine' Rd.setL ?v1 ?v2 ?v3 ?v4 ?v5 ?_); (case v1 => assumption); (case v2 => walk_at "mem"); (case v3 => walk_at "at"); (case v4 => walk_at "put"); (case v5 => walk_at "own"); intro _ _)
  | with_reducible refine' Rd.tup ?_
  | with_reducible refine' Rd.lst ?_
  | ((with_reducible refine' Rd.tupN ?v1 ?v2 ?_); (case v1 => assumption); (case v2 => simp only [List.length_cons, List.length_nil]; decide); intro _ _ _ _)
  | ((with_reducible refine' Rd.lstN ?v1 ?v2 ?_); (case v1 => assumption); (case v2 => simp only [List.length_cons, List.length_nil]; decide); intro _ _ _ _)
  | with_reducible refine' Rd.ret ?_
  | with_reducible refine' Rd.drop ?_
  | with_reducible refine' Rd.retN ?_
  | with_reducible refine' Rd.next ?_
  | with_reducible refine' Rd.brk ?_
  | with_reducible refine' Rd.cont ?_
  | with_reducible refine' Rd.call ?_
  | walk_at "ask"
  | with_reducible refine' Rd.bm ?_
  | ((with_reducible refine' Rd.bmL ?v1 ?v2 ?_); (case v1 => assumption); (case v2 => walk_at "mem"))
  | ((with_reducible refine' Rd.app ?v1 ?v2 ?v3 ?v4 ?v5 ?_); (case v1 => assumption); (case v2 => walk_at "mem"); (case v3 => simp only [List.length_cons, List.length_nil, List.length_append]; omega); (case v4 => walk_at "put"); (case v5 => walk_at "own"); intro _ _)
  | with_reducible refine' Rd.asgT ?_
  | ((with_reducible refine' Rd.gtup ?v1 ?v2 ?v3 ?_); (case v1 => assumption); (case v2 => walk_at "mem"); (case v3 => exact rfl))
  | with_reducible refine' Rd.gcons ?_
  | with_reducible refine' Rd.gname ?_
  | with_reducible refine' Rd.gnil ?_
  | with_reducible refine' Rd.sl ?_
  | with_reducible refine' Rd.noPart ?_
  | with_reducible refine' Rd.part ?_
  | with_reducible refine' Rd.prt ?_
  | with_reducible refine' Rd.isB ?_
  | ((with_reducible refine' Rd.wp ?vh ?_); (case vh => exact rfl))
  | with_reducible refine' Rd.makeK ?_
  | with_reducible refine' Rd.meth ?_
  | ((with_reducible refine' Rd.catL ?v1 ?v2 ?v3 ?v4 ?_); (case v1 => assumption); (case v2 => walk_at "mem"); (case v3 => walk_at "mem"); (case v4 => simp only [List.length_cons, List.length_nil, List.length_append]; omega); intro _ _ _ _)
  | with_reducible refine' Rd.dnew ?_
  | ((with_reducible refine' Rd.dnewL ?v1 ?_); (case v1 => assumption); intro _ _ _ _)
  | with_reducible refine' Rd.lc ?_
  | with_reducible refine' Rd.wZ ?_
  | with_reducible refine' Rd.tYesH ?_
  | with_reducible refine' Rd.fmt ?_
  | with_reducible refine' Rd.joined ?_
  | with_reducible refine' Rd.jsNil ?_
  | with_reducible refine' Rd.jsCons ?_
  | ((with_reducible refine' Rd.isiT ?v1 ?v2 ?v3 ?v4 ?v5 ?_); (case v1 => assumption); (case v2 => walk_at "mem"); (case v3 => walk_at "ty"); (case v4 => first | exact .cons (.ty _) (.cons (.ty _) .nil) | exact .cons (.ty _) (.cons (.ty _) (.cons (.ty _) (.cons (.ty _) .nil))) | exact .cons (.ty _) (.cons (.ty _) (.cons (.ty _) .nil))); (case v5 => walk_at "kitA"))
  | with_reducible refine' Rd.forS ?_
  | with_reducible refine' Rd.wEnT ?_
  | ((with_reducible refine' Rd.wEnTL ?v1 ?v2 ?_); (case v1 => assumption); (case v2 => walk_at "mem"))
  | with_reducible refine' Rd.wL ?_
  | ((with_reducible refine' Rd.wLL ?v1 ?v2 ?_); (case v1 => assumption); (case v2 => walk_at "mem"))
  | with_reducible refine' Rd.wT ?_
  | ((with_reducible refine' Rd.wTL ?v1 ?v2 ?_); (case v1 => assumption); (case v2 => walk_at "mem"))
  | with_reducible refine' Rd.wR1 ?_
  | ((with_reducible refine' Rd.wR1L ?v1 ?v2 ?_); (case v1 => omega); (case v2 => omega))
  | with_reducible refine' Rd.wR2 ?_
  | ((with_reducible refine' Rd.wR2L ?v1 ?_); (case v1 => omega)))
local macro_rules | `(tactic| walk_at "rd") => `(tactic| repeat (walk_at "rd1"))

local macro_rules | `(tactic| walk_at "ask") => `(tactic| ((with_reducible refine' fill_ask ?v1 ?v2 ?v3 ?v4 ?v5 ?_); (case v1 => assumption); (case v2 => walk_at "mem"); (case v3 => walk_at "mem"); (case v4 => assumption); (case v5 => walk_at "own"); intro _ _))

local macro_rules | `(tactic| walk_at "ask") => `(tactic| ((with_reducible refine' take_ask ?v1 ?v2 ?v3 ?v4 ?v5 ?v6 ?_); (case v1 => assumption); (case v2 => walk_at "mem"); (case v3 => walk_at "mem"); (case v4 => assumption); (case v5 => walk_at "own"); (case v6 => first | decide | omega); intro _ _ _ _))
local macro_rules | `(tactic| walk_at "ask") => `(tactic| ((with_reducible refine' one_ask ?v1 ?v2 ?v3 ?v4 ?v5 ?_); (case v1 => assumption); (case v2 => walk_at "subl"); (case v3 => assumption); (case v4 => walk_at "own"); (case v5 => simp only [List.length_append, List.length_cons, List.length_nil]; decide); intro _ _ _ _))
local macro_rules | `(tactic| walk_at "ask") => `(tactic| ((with_reducible refine' fig_ask ?v1 ?v2 ?v3 ?v4 ?_); (case v1 => assumption); (case v2 => walk_at "subl"); (case v3 => assumption); (case v4 => walk_at "own"); intro _ _ _ _))
local macro_rules | `(tactic| walk_at "ask") => `(tactic| ((with_reducible refine' low_ask ?v1 ?v2 ?v3 ?v4 ?_); (case v1 => assumption); (case v2 => first | assumption | omega); (case v3 => omega); (case v4 => omega); intro _ _ _ _))
local macro_rules | `(tactic| walk_at "ask") => `(tactic| ((with_reducible refine' frac_ask ?v1 ?v2 ?v3 ?v4 ?_); (case v1 => assumption); (case v2 => walk_at "subl"); (case v3 => assumption); (case v4 => walk_at "own"); intro _ _ _ _ _ _ _))

local macro_rules | `(tactic| walk_at "ask") => `(tactic| with_reducible refine' isI_int ?_)
local macro_rules | `(tactic| walk_at "ask") => `(tactic| ((with_reducible refine' mk_span ?v1 ?v2 ?v3 ?_); (case v1 => assumption); (case v2 => first | assumption | omega); (case v3 => first | assumption | omega); intro _ _ _ _))
local macro_rules | `(tactic| walk_at "ask") => `(tactic| ((with_reducible refine' mk_span1 ?v1 ?_); (case v1 => assumption); intro _ _ _ _))
local macro_rules | `(tactic| walk_at "ask") => `(tactic| ((with_reducible refine' fld_over ?v1 ?v2 ?v3 ?v4 ?_); (case v1 => assumption); (case v2 => assumption); (case v3 => assumption); (case v4 => walk_at "mem")))
local macro_rules | `(tactic| walk_at "ask") => `(tactic| ((with_reducible refine' fld_under ?v1 ?v2 ?v3 ?v4 ?_); (case v1 => assumption); (case v2 => assumption); (case v3 => assumption); (case v4 => walk_at "mem")))
local macro_rules | `(tactic| walk_at "ty") => `(tactic| exact span_ty (by assumption) (by assumption) (by walk_at "mem"))

local macro_rules | `(tactic| walk_at "ask") => `(tactic| with_reducible refine' Rd.bmS ?_)
local macro_rules | `(tactic| walk_at "ask") => `(tactic| with_reducible refine' Rd.stw ?_)
local macro_rules | `(tactic| walk_at "ask") => `(tactic| ((with_reducible refine' Rd.rmp ?v1 ?_); (case v1 => omega)))
local macro_rules | `(tactic| walk_at "ask") => `(tactic| with_reducible refine' Rd.inSg ?_)
local macro_rules | `(tactic| walk_at "ask") => `(tactic| with_reducible refine' Rd.wS ?_)
local macro_rules | `(tactic| walk_at "ask") => `(tactic| with_reducible refine' Rd.wSL ?_)

section
variable {P : Program} {w : World} {K : PySem.W.Frag} {mg : Str → Option Value} {base : Heap}
/-- BadText's own making -/
theorem ok_BadText_init (T : Txt K mg) : FnOk P w K mg base CX0 1 (He.fAd K ("BadText", some "__init__")) T.fd_BadText_init ["self", "line"] (spExI (He.ga K "BadText") "line") := by
  refine T.F_BadText_init.ok sc_BadText_init (fun vs H Q E h => ?_) (fun cdv A outer s H vs Q E hr h => ?_)
  · obtain ⟨a, v, rfl, _⟩ := h
    rfl
  · obtain ⟨a, v, rfl, ha, k⟩ := h
    refine ⟨_, PSs.nox (pss_one (ps_ost (pv 0) (pv 1))), ?_⟩
    exact ⟨_, rfl, _, rfl, a, _, rfl, T.x_BadText.oex, T.a_BadText_line, .inl ⟨ha, fun d hd hn => k d hd hn⟩⟩
theorem figs_ask {H0 H : Hp} {l : Led} {a : List Nat} {Q : VK} {E : XK} (s : Stt H0 [] l H) (hl : a.length ≤ 500) (k : ∀ H', Stt H0 [] l H' → Q (.bl (figs a)) H') : spFigs ([TS a] ++ []) H Q E := ⟨a, rfl, hl, fun H' kp => k H' (s.after0 kp)⟩
theorem val_ask {H0 H : Hp} {l : Led} {a : List Nat} {Q : VK} {E : XK} (s : Stt H0 [] l H) (hl : a.length ≤ 500) (hd : a.all dig = true) (k : ∀ H', Stt H0 [] l H' → Q (.int ((NumText.digitsVal a : Nat) : Int)) H') : spVal ([TS a] ++ []) H Q E := ⟨a, rfl, hl, hd, fun H' kp => k H' (s.after0 kp)⟩
/-- Span.of_text(text) -/
def spOf (K : PySem.W.Frag) : Sp := fun vs H Q E => ∃ (t : List Nat) (neg : Bool) (h : List Nat) (u : Option (List Nat)), vs = [TS t] ∧ Cut t neg h u ∧ t.length ≤ 90 ∧
  (okT neg h u = true → ∀ q H', H q = none → Stt H [] [(q, SpanO K (ovr neg h) (und u))] H' → Q (.ref q) H') ∧
  (okT neg h u = false → ∀ d H', Kp [] H H' → H' d = none → E (.ref (He.ga K "BadText")) (some d) (upd H' d (.xd [("line", .int 1)])))
theorem badT {σ : L2.St} {H : Hp} {W : XK} (k : ∀ d, H d = none → W (.ref (He.ga K "BadText")) (some d) (upd H d (.xd [("line", .int 1)]))) : tMkO (He.ga K "BadText") (spExI (He.ga K "BadText") "line") [] (tCons (tC (.int 1)) tNil) σ H W :=
  mkO_ask ⟨.int 1, rfl, k⟩ (fun z h => z _ _ h)
end

end
section
local macro_rules | `(tactic| walk_at "subl") => `(tactic| first | with_reducible exact List.nil_sublist _ | with_reducible exact List.Sublist.refl _ | (with_reducible refine List.Sublist.cons₂ _ ?_; walk_at "subl") | (with_reducible refine List.Sublist.cons _ ?_; walk_at "subl"))
local macro_rules | `(tactic| walk_at "k") => `(tactic| try dsimp only [L2.cxOf, L2.Cx.nox, L2.Cx.wish, L2.Cx.blk])
local macro_rules | `(tactic| walk_at "ask") => `(tactic| fail)
local macro_rules | `(tactic| walk_at "mem") => `(tactic| first | with_reducible exact List.mem_cons_self | (with_reducible apply List.mem_cons_of_mem; walk_at "mem"))
local macro_rules | `(tactic| walk_at "put") => `(tactic| first | with_reducible exact Lt.Put.head | (with_reducible apply Lt.Put.tail; walk_at "put"))
local macro_rules | `(tactic| walk_at "own") => `(tactic| first | exact Or.inr (by assumption) | exact Or.inl (by walk_at "mem"))
local macro_rules | `(tactic| walk_at "cnd") => `(tactic| first | assumption | decide | ((try dsimp only); omega) | (unfold CMul; omega) | (unfold CDiv; omega) | (unfold CPow; omega) | exact Or.inr (by decide) | exact Or.inl (by decide) | exact wide_div (b := 128) (by omega) (by omega) (by decide) (by decide))
local macro_rules | `(tactic| walk_at "at") => `(tactic| first | exact rfl | assumption)
local macro_rules | `(tactic| walk_at "kit") => `(tactic| first | assumption | exact kit_int_int | exact kit_int_bool | exact kit_int_str | exact kit_int_list | exact kit_int_tuple | exact kit_int_dict | exact kit_bool_int | exact kit_bool_bool | exact kit_bool_str | exact kit_bool_list | exact kit_bool_tuple | exact kit_bool_dict | exact kit_str_int | exact kit_str_bool | exact kit_str_str | exact kit_str_list | exact kit_str_tuple | exact kit_str_dict | exact kit_list_int | exact kit_list_bool | exact kit_list_str | exact kit_list_list | exact kit_list_tuple | exact kit_list_dict | exact kit_tuple_int | exact kit_tuple_bool | exact kit_tuple_str | exact kit_tuple_list | exact kit_tuple_tuple | exact kit_tuple_dict | exact kit_dict_int | exact kit_dict_bool | exact kit_dict_str | exact kit_dict_list | exact kit_dict_tuple | exact kit_dict_dict | exact kit_NoneType_int | exact kit_NoneType_bool | exact kit_NoneType_str | exact kit_NoneType_list | exact kit_NoneType_tuple | exact kit_NoneType_dict)
local macro_rules | `(tactic| walk_at "kitA") => `(tactic| first | assumption | exact kitA_lt_int | exact kitA_lt_bool | exact kitA_lt_str | exact kitA_lt_list | exact kitA_lt_tuple | exact kitA_lt_dict | exact kitA_lt_NoneType | exact kitA_bilt_int | exact kitA_bilt_bool | exact kitA_bilt_str | exact kitA_bilt_list | exact kitA_bilt_tuple | exact kitA_bilt_dict | exact kitA_bilt_NoneType)
local macro_rules | `(tactic| walk_at "ty") => `(tactic| first | exact .base (.int _) | exact .base (.bl _) | exact .base (.str _) | exact .base .non | exact .base (.lst (Stt.get (by assumption) (by walk_at "mem"))) | exact .base (.tup (Stt.get (by assumption) (by walk_at "mem"))) | exact .base (.dK (Stt.get (by assumption) (by walk_at "mem"))) | exact sqL_ty (Stt.upL (by assumption) (by assumption)) | exact sqT_ty (Stt.upT (by assumption) (by assumption)) | exact InsT.ty (by assumption) (Stt.get (by assumption) (by walk_at "mem")) | assumption)
local macro_rules | `(tactic| walk_at "rd1") => `(tactic| first
  | with_reducible refine' Rd.seq ?_
  | with_reducible refine' Rd.asg ?_
  | ((with_reducible refine' Rd.var ?vh ?_); (case vh => exact rfl))
  | with_reducible refine' Rd.con ?_
  | with_reducible refine' Rd.op ?_
  | with_reducible refine' Rd.i0 ?_
  | ((with_reducible refine' Rd.ic ?vh ?_); (case vh => walk_at "cnd"))
  | ((with_reducible refine' Rd.ixL ?v1 ?v2 ?v3 ?_); (case v1 => assumption); (case v2 => walk_at "mem"); (case v3 => walk_at "at"))
  | ((with_reducible refine' Rd.ixT ?v1 ?v2 ?v3 ?_); (case v1 => assumption); (case v2 => walk_at "mem"); (case v3 => walk_at "at"))
  | ((with_reducible refine' Rd.ixD2 ?v1 ?v2 ?_); (case v1 => assumption); (case v2 => walk_at "mem"); intro _)
  | ((with_reducible refine' Rd.ixD3 ?v1 ?v2 ?_); (case v1 => assumption); (case v2 => walk_at "mem"); intro _)
  | ((with_reducible refine' Rd.setD2 ?v1 ?v2 ?v3 ?v4 ?_); (case v1 => assumption); (case v2 => walk_at "mem"); (case v3 => walk_at "put"); (case v4 => walk_at "own"); intro _ _)
  | ((with_reducible refine' Rd.isi ?v1 ?v2 ?v3 ?_); (case v1 => walk_at "ty"); (case v2 => first | exact ClsV.ty _ | exact ClsV.own _); (case v3 => walk_at "kit"))
  | with_reducible refine' Rd.fld ?_
  | ((with_reducible refine' Rd.fldI ?v1 ?v2 ?v3 ?v4 ?v5 ?_); (case v1 => assumption); (case v2 => walk_at "mem"); (case v3 => assumption); (case v4 => assumption); (case v5 => walk_at "at"))
  | with_reducible refine' Rd.sfld ?_
  | ((with_reducible refine' Rd.sfldI ?v1 ?v2 ?v3 ?v4 ?v5 ?v6 ?v7 ?_); (case v1 => assumption); (case v2 => walk_at "mem"); (case v3 => assumption); (case v4 => assumption); (case v5 => first | decide | (refine Nat.lt_of_le_of_lt (putF_len _ _ _) ?_; decide)); (case v6 => walk_at "put"); (case v7 => walk_at "own"); intro _ _)
  | with_reducible refine' Rd.make ?_
  | with_reducible refine' Rd.gcd ?_
  | with_reducible refine' Rd.cons ?_
  | with_reducible refine' Rd.nil ?_
  | with_reducible refine' Rd.cb ?_
  | with_reducible refine' Rd.intI ?_
  | with_reducible refine' Rd.absI ?_
  | ((with_reducible refine' Rd.lenL ?v1 ?v2 ?_); (case v1 => assumption); (case v2 => walk_at "mem"))
  | ((with_reducible refine' Rd.lenT ?v1 ?v2 ?_); (case v1 => assumption); (case v2 => walk_at "mem"))
  | ((with_reducible refine' Rd.lenBL ?v1 ?v2 ?v3 ?_); (case v1 => assumption); (case v2 => assumption); (case v3 => first | exact List.not_mem_nil | assumption))
  | ((with_reducible refine' Rd.lenBT ?v1 ?v2 ?v3 ?_); (case v1 => assumption); (case v2 => assumption); (case v3 => first | exact List.not_mem_nil | assumption))
  | ((with_reducible refine' Rd.ixBL ?v1 ?v2 ?v4 ?v3 ?_); (case v1 => assumption); (case v2 => assumption); (case v4 => first | exact List.not_mem_nil | assumption); (case v3 => walk_at "at"))
  | ((with_reducible refine' Rd.ixBT ?v1 ?v2 ?v4 ?v3 ?_); (case v1 => assumption); (case v2 => assumption); (case v4 => first | exact List.not_mem_nil | assumption); (case v3 => walk_at "at"))
  | ((with_reducible refine' Rd.brI ?vh ?_); (case vh => with_reducible exact rfl))
  | with_reducible refine' Rd.ifS ?_
  | with_reducible refine' Rd.test ?_
  | with_reducible refine' Rd.tbl ?_
  | with_reducible refine' Rd.bl ?_
  | with_reducible refine' Rd.brTT ?_
  | with_reducible refine' Rd.brFF ?_
  | with_reducible refine' Rd.brN ?_
  | ((with_reducible refine' Rd.aug ?vh ?_); (case vh => exact rfl))
  | with_reducible refine' Rd.ipI ?_
  | with_reducible refine' Rd.blV ?_
  | with_reducible refine' Rd.notVL ?_
  | with_reducible refine' Rd.andT ?_
  | with_reducible refine' Rd.orT ?_
  | with_reducible refine' Rd.notT ?_
  | with_reducible refine' Rd.andV ?_
  | with_reducible refine' Rd.orV ?_
  | with_reducible refine' Rd.notV ?_
  | with_reducible refine' Rd.ifE ?_
  | ((with_reducible refine' Rd.eqS ?vh ?_); (case vh => exact rfl))
  | ((with_reducible refine' Rd.neS ?vh ?_); (case vh => exact rfl))
  | with_reducible refine' Rd.par ?_
  | with_reducible refine' Rd.parL ?_
  | with_reducible refine' Rd.un ?_
  | with_reducible refine' Rd.u1 ?_
  | with_reducible refine' Rd.sub ?_
  | ((with_reducible refine' Rd.setL ?v1 ?v2 ?v3 ?v4 ?v5 ?_); (case v1 => assumption); (case v2 => walk_at "mem"); (case v3 => walk_at "at"); (case v4 => walk_at "put"); (case v5 => walk_at "own"); intro _ _)
  | with_reducible refine' Rd.tup ?_
  | with_reducible refine' Rd.lst ?_
  | ((with_reducible refine' Rd.tupN ?v1 ?v2 ?_); (case v1 => assumption); (case v2 => simp only [List.length_cons, List.length_nil]; decide); intro _ _ _ _)
  | ((with_reducible refine' Rd.lstN ?v1 ?v2 ?_); (case v1 => assumption); (case v2 => simp only [List.length_cons, List.length_nil]; decide); intro _ _ _ _)
  | with_reducible refine' Rd.ret ?_
  | with_reducible refine' Rd.drop ?_
  | with_reducible refine' Rd.retN ?_
  | with_reducible refine' Rd.next ?_
  | with_reducible refine' Rd.brk ?_
  | with_reducible refine' Rd.cont ?_
  | with_reducible refine' Rd.call ?_
  | walk_at "ask"
  | with_reducible refine' Rd.bm ?_
  | ((with_reducible refine' Rd.bmL ?v1 ?v2 ?_); (case v1 => assumption); (case v2 => walk_at "mem"))
  | ((with_reducible refine' Rd.app ?v1 ?v2 ?v3 ?v4 ?v5 ?_); (case v1 => assumption); (case v2 => walk_at "mem"); (case v3 => simp only [List.length_cons, List.length_nil, List.length_append]; omega); (case v4 => walk_at "put"); (case v5 => walk_at "own"); intro _ _)
  | with_reducible refine' Rd.asgT ?_
  | ((with_reducible refine' Rd.gtup ?v1 ?v2 ?v3 ?_); (case v1 => assumption); (case v2 => walk_at "mem"); (case v3 => exact rfl))
  | with_reducible refine' Rd.gcons ?_
  | with_reducible refine' Rd.gname ?_
  | with_reducible refine' Rd.gnil ?_
  | with_reducible refine' Rd.sl ?_
  | with_reducible refine' Rd.noPart ?_
  | with_reducible refine' Rd.part ?_
  | with_reducible refine' Rd.prt ?_
  | with_reducible refine' Rd.isB ?_
  | ((with_reducible refine' Rd.wp ?vh ?_); (case vh => exact rfl))
  | with_reducible refine' Rd.makeK ?_
  | with_reducible refine' Rd.meth ?_
  | ((with_reducible refine' Rd.catL ?v1 ?v2 ?v3 ?v4 ?_); (case v1 => assumption); (case v2 => walk_at "mem"); (case v3 => walk_at "mem"); (case v4 => simp only [List.length_cons, List.length_nil, List.length_append]; omega); intro _ _ _ _)
  | with_reducible refine' Rd.dnew ?_
  | ((with_reducible refine' Rd.dnewL ?v1 ?_); (case v1 => assumption); intro _ _ _ _)
  | with_reducible refine' Rd.lc ?_
  | with_reducible refine' Rd.wZ ?_
  | with_reducible refine' Rd.tYesH ?_
  | with_reducible refine' Rd.fmt ?_
  | with_reducible refine' Rd.joined ?_
  | with_reducible refine' Rd.jsNil ?_
  | with_reducible refine' Rd.jsCons ?_
  | ((with_reducible refine' Rd.isiT ?v1 ?v2 ?v3 ?v4 ?v5 ?_); (case v1 => assumption); (case v2 => walk_at "mem"); (case v3 => walk_at "ty"); (case v4 => first | exact .cons (.ty _) (.cons (.ty _) .nil) | exact .cons (.ty _) (.cons (.ty _) (.cons (.ty _) (.cons (.ty _) .nil))) | exact .cons (.ty _) (.cons (.ty _) (.cons (.ty _) .nil))); (case v5 => walk_at "kitA"))
  | with_reducible refine' Rd.forS ?_
  | with_reducible refine' Rd.wEnT ?_
  | ((with_reducible refine' Rd.wEnTL ?v1 ?v2 ?_); (case v1 => assumption); (case v2 => walk_at "mem"))
  | with_reducible refine' Rd.wL ?_
  | ((with_reducible refine' Rd.wLL ?v1 ?v2 ?_); (case v1 => assumption); (case v2 => walk_at "mem"))
  | with_reducible refine' Rd.wT ?_
  | ((with_reducible refine' Rd.wTL ?v1 ?v2 ?_); (case v1 => assumption); (case v2 => walk_at "mem"))
  | with_reducible refine' Rd.wR1 ?_
  | ((with_reducible refine' Rd.wR1L ?v1 ?v2 ?_); (case v1 => omega); (case v2 => omega))
  | with_reducible refine' Rd.wR2 ?_
  | ((with_reducible refine' Rd.wR2L ?v1 ?_); (case v1 => omega)))
local macro_rules | `(tactic| walk_at "rd") => `(tactic| repeat (walk_at "rd1"))

local macro_rules | `(tactic| walk_at "ask") => `(tactic| ((with_reducible refine' fill_ask ?v1 ?v2 ?v3 ?v4 ?v5 ?_); (case v1 => assumption); (case v2 => walk_at "mem"); (case v3 => walk_at "mem"); (case v4 => assumption); (case v5 => walk_at "own"); intro _ _))

local macro_rules | `(tactic| walk_at "ask") => `(tactic| ((with_reducible refine' take_ask ?v1 ?v2 ?v3 ?v4 ?v5 ?v6 ?_); (case v1 => assumption); (case v2 => walk_at "mem"); (case v3 => walk_at "mem"); (case v4 => assumption); (case v5 => walk_at "own"); (case v6 => first | decide | omega); intro _ _ _ _))
local macro_rules | `(tactic| walk_at "ask") => `(tactic| ((with_reducible refine' one_ask ?v1 ?v2 ?v3 ?v4 ?v5 ?_); (case v1 => assumption); (case v2 => walk_at "subl"); (case v3 => assumption); (case v4 => walk_at "own"); (case v5 => simp only [List.length_append, List.length_cons, List.length_nil]; decide); intro _ _ _ _))
local macro_rules | `(tactic| walk_at "ask") => `(tactic| ((with_reducible refine' fig_ask ?v1 ?v2 ?v3 ?v4 ?_); (case v1 => assumption); (case v2 => walk_at "subl"); (case v3 => assumption); (case v4 => walk_at "own"); intro _ _ _ _))
local macro_rules | `(tactic| walk_at "ask") => `(tactic| ((with_reducible refine' low_ask ?v1 ?v2 ?v3 ?v4 ?_); (case v1 => assumption); (case v2 => first | assumption | omega); (case v3 => omega); (case v4 => omega); intro _ _ _ _))
local macro_rules | `(tactic| walk_at "ask") => `(tactic| ((with_reducible refine' frac_ask ?v1 ?v2 ?v3 ?v4 ?_); (case v1 => assumption); (case v2 => walk_at "subl"); (case v3 => assumption); (case v4 => walk_at "own"); intro _ _ _ _ _ _ _))

local macro_rules | `(tactic| walk_at "ask") => `(tactic| with_reducible refine' isI_int ?_)
local macro_rules | `(tactic| walk_at "ask") => `(tactic| ((with_reducible refine' mk_span ?v1 ?v2 ?v3 ?_); (case v1 => assumption); (case v2 => first | assumption | omega); (case v3 => first | assumption | omega); intro _ _ _ _))
local macro_rules | `(tactic| walk_at "ask") => `(tactic| ((with_reducible refine' mk_span1 ?v1 ?_); (case v1 => assumption); intro _ _ _ _))
local macro_rules | `(tactic| walk_at "ask") => `(tactic| ((with_reducible refine' fld_over ?v1 ?v2 ?v3 ?v4 ?_); (case v1 => assumption); (case v2 => assumption); (case v3 => assumption); (case v4 => walk_at "mem")))
local macro_rules | `(tactic| walk_at "ask") => `(tactic| ((with_reducible refine' fld_under ?v1 ?v2 ?v3 ?v4 ?_); (case v1 => assumption); (case v2 => assumption); (case v3 => assumption); (case v4 => walk_at "mem")))
local macro_rules | `(tactic| walk_at "ty") => `(tactic| exact span_ty (by assumption) (by assumption) (by walk_at "mem"))

local macro_rules | `(tactic| walk_at "ask") => `(tactic| with_reducible refine' Rd.bmS ?_)
local macro_rules | `(tactic| walk_at "ask") => `(tactic| with_reducible refine' Rd.stw ?_)
local macro_rules | `(tactic| walk_at "ask") => `(tactic| ((with_reducible refine' Rd.rmp ?v1 ?_); (case v1 => omega)))
local macro_rules | `(tactic| walk_at "ask") => `(tactic| with_reducible refine' Rd.inSg ?_)
local macro_rules | `(tactic| walk_at "ask") => `(tactic| with_reducible refine' Rd.wS ?_)
local macro_rules | `(tactic| walk_at "ask") => `(tactic| with_reducible refine' Rd.wSL ?_)

section
variable {P : Program} {w : World} {K : PySem.W.Frag} {mg : Str → Option Value} {base : Heap}
theorem brM {A A' B B' : Prop} {c : Bool} (h : Rd.Br c A B) (f : A → A') (g : B → B') : Rd.Br c A' B' := by
  cases c with
  | true => exact f h
  | false => exact g h
theorem nO_one {x y : Int} (hy : 0 < y) (hg : Int.gcd x y = 1) : nO x y = x := by
  unfold nO
  rw [if_neg (by omega), hg]
  exact Int.ediv_one x
theorem nU_one {x y : Int} (hy : 0 < y) (hg : Int.gcd x y = 1) : nU x y = y := by
  unfold nU
  rw [if_neg (by omega), hg]
  exact Int.ediv_one y
theorem cut_body {t : List Nat} {neg : Bool} {h : List Nat} {u : Option (List Nat)} (c : Cut t neg h u) : (if t.head? = some 45 then t.tail else t) = h ++ tlU u := by
  have e := c.eq
  cases neg with
  | true =>
    rw [e]
    rfl
  | false =>
    have e2 : t = h ++ tlU u := e
    have n : t.head? ≠ some 45 := by
      rw [e2]
      cases h with
      | nil =>
        cases u with
        | none => simp [tlU]
        | some v => simp [tlU]
      | cons a r => exact c.pos rfl
    rw [if_neg n, e2]
theorem cut_head {t : List Nat} {neg : Bool} {h : List Nat} {u : Option (List Nat)} (c : Cut t neg h u) : decide (t.head? = some 45) = neg := by
  have e := c.eq
  cases neg with
  | true =>
    rw [e]
    rfl
  | false =>
    have e2 : t = h ++ tlU u := e
    refine decide_eq_false ?_
    rw [e2]
    cases h with
    | nil =>
      cases u with
      | none => simp [tlU]
      | some v => simp [tlU]
    | cons a r => exact c.pos rfl
theorem cut_len {t : List Nat} {neg : Bool} {h : List Nat} {u : Option (List Nat)} (c : Cut t neg h u) : (h ++ tlU u).length ≤ t.length := by
  have z := congrArg List.length c.eq
  rw [List.length_append (as := sgn neg)] at z
  omega
theorem figs_dig {a : List Nat} (h : figs a = true) : a.all dig = true := by
  unfold figs at h
  exact (Bool.and_eq_true_iff.mp h).1
theorem dv_bound {a : List Nat} (h : figs a = true) (hl : a.length ≤ 90) : NumText.digitsVal a < 10 ^ 90 := Nat.lt_of_lt_of_le (digitsVal_lt (figs_dig h)) (Nat.pow_le_pow_right (by decide) hl)
theorem ovr_gcd (neg : Bool) (h : List Nat) (b : Nat) : Int.gcd (ovr neg h) (b : Int) = Nat.gcd (NumText.digitsVal h) b := by
  unfold ovr
  cases neg with
  | true => simp [Int.gcd]
  | false => simp [Int.gcd]
theorem ok_Span_of_text (T : Txt K mg) : FnOk P w K mg base (L2.CX P w) 4 (sAd K ("Span", some "of_text")) T.fd_Span_of_text ["text"] (spOf K) := by
  refine T.F_Span_of_text.ok sc_Span_of_text (fun vs H Q E h => ?_) (fun cdv A outer s H vs Q E hr h => ?_)
  · obtain ⟨t, neg, h, u, rfl, _⟩ := h
    rfl
  · obtain ⟨t, neg, h, u, rfl, hc, hl, k1, k2⟩ := h
    refine ⟨_, (pss_cons (ps_if (pt_not (pt_val (pe_callB call_isi (by rfl) T.n_isinstance (by decide +kernel) (pa_cons (pv 0) (pa_cons (pe_bltn (v := .ty "str") (by rfl) T.n_str (by decide +kernel) (show RelV (.ty "str") (.type "str") from rfl)) pa_nil))))) (pss_one (ps_raise rfl (takes_of rfl rfl rfl rfl) (pmk_oex T.x_BadText.oex T.x_BadText.iC T.x_BadText.tI (ok_BadText_init T) (hr.mono (by decide)) T.b_BadText_init .nil pass0 rfl T.g_BadText (pa_cons pe_int pa_nil))))
   pss_nil)
  (pss_cons (ps_asg (pe_bm PySem.F.plainAttrs_str PySem.F.slot_str_partition PySem.F.type_str_partition mt_partitionQ (pe_bm PySem.F.plainAttrs_str PySem.F.slot_str_removeprefix PySem.F.type_str_removeprefix mt_removeprefixQ (pv 0) (pa_cons (Lt.pe_strL (l := [45]) (by decide +kernel)) pa_nil)) (pa_cons (Lt.pe_strL (l := [47]) (by decide +kernel)) pa_nil)) (pg_tup (by rfl) (pgs_cons (pg_name (i := 1) sc_Span_of_text.nd rfl (by first | exact Or.inl rfl | exact Or.inr rfl)) (pgs_cons (pg_name (i := 2) sc_Span_of_text.nd rfl (by first | exact Or.inl rfl | exact Or.inr rfl)) (pgs_cons (pg_name (i := 3) sc_Span_of_text.nd rfl (by first | exact Or.inl rfl | exact Or.inr rfl)) pgs_nil)))))
  (pss_cons (ps_if (PW.pt (pw_or (pt_not (pt_val (pe_call (ok_is_numeral T) (hr.mono (by decide)) rfl T.g_is_numeral T.F_is_numeral.kp T.b_is_numeral .nil pass0 (pa_cons (pv 1) pa_nil)))) (pw_or1 (PW.pt (pw_and (pt_cmpR op_eq (pv 2) (Lt.pe_strL (l := [47]) (by decide +kernel)) (nomark _)) (pw_and1 (pt_not (pt_val (pe_call (ok_is_numeral T) (hr.mono (by decide)) rfl T.g_is_numeral T.F_is_numeral.kp T.b_is_numeral .nil pass0 (pa_cons (pv 3) pa_nil)))))))))) (pss_one (ps_raise rfl (takes_of rfl rfl rfl rfl) (pmk_oex T.x_BadText.oex T.x_BadText.iC T.x_BadText.tI (ok_BadText_init T) (hr.mono (by decide)) T.b_BadText_init .nil pass0 rfl T.g_BadText (pa_cons pe_int pa_nil))))
   pss_nil)
  (pss_cons (ps_asg (pe_bm PySem.F.plainAttrs_str PySem.F.slot_str_startswith PySem.F.type_str_startswith mt_startswithQ (pv 0) (pa_cons (Lt.pe_strL (l := [45]) (by decide +kernel)) pa_nil)) (pg_name (i := 4) sc_Span_of_text.nd rfl (by first | exact Or.inl rfl | exact Or.inr rfl)))
  (C8.pss_cut (ps_if (PW.pt (pw_or (PW.pt (pw_and (pt_val (pv 4)) (pw_and1 (pt_cmpR op_eq (pv 1) (Lt.pe_strL (l := [48]) (by decide +kernel)) (nomark _))))) (pw_or1 (pt_cmpR op_in_seq (pv 3) (pe_tup (pa_cons (Lt.pe_strL (l := [48]) (by decide +kernel)) (pa_cons (Lt.pe_strL (l := [49]) (by decide +kernel)) pa_nil))) (by rfl))))) (pss_one (ps_raise rfl (takes_of rfl rfl rfl rfl) (pmk_oex T.x_BadText.oex T.x_BadText.iC T.x_BadText.tI (ok_BadText_init T) (hr.mono (by decide)) T.b_BadText_init .nil pass0 rfl T.g_BadText (pa_cons pe_int pa_nil))))
   pss_nil)
  (pss_cons (ps_asg (pe_call (ok_numeral_value T) (hr.mono (by decide)) rfl T.g_numeral_value T.F_numeral_value.kp T.b_numeral_value .nil pass0 (pa_cons (pv 1) pa_nil)) (pg_name (i := 5) sc_Span_of_text.nd rfl (by first | exact Or.inl rfl | exact Or.inr rfl)))
  (pss_cons (ps_asg (pe_ifExp (pt_cmpR op_eq (pv 2) (Lt.pe_strL (l := [47]) (by decide +kernel)) (nomark _)) (pe_call (ok_numeral_value T) (hr.mono (by decide)) rfl T.g_numeral_value T.F_numeral_value.kp T.b_numeral_value .nil pass0 (pa_cons (pv 3) pa_nil)) pe_int) (pg_name (i := 6) sc_Span_of_text.nd rfl (by first | exact Or.inl rfl | exact Or.inr rfl)))
  (pss_cons (ps_asg (pe_makeX T.k_Span (ok_Span_init T) (hr.mono (by decide)) rfl T.g_Span T.b_Span_init2 pass0 (pa_cons (pe_ifExp (pt_val (pv 4)) (pe_un un_neg (pv 5)) (pv 5)) (pa_cons (pv 6) pa_nil))) (pg_name (i := 7) sc_Span_of_text.nd rfl (by first | exact Or.inl rfl | exact Or.inr rfl)))
  (pss_cons (ps_if (pt_cmpR op_ne (pe_fld (pv 7) rfl) (pv 6) (nomark _)) (pss_one (ps_raise rfl (takes_of rfl rfl rfl rfl) (pmk_oex T.x_BadText.oex T.x_BadText.iC T.x_BadText.tI (ok_BadText_init T) (hr.mono (by decide)) T.b_BadText_init .nil pass0 rfl T.g_BadText (pa_cons pe_int pa_nil))))
   pss_nil)
  (pss_one (ps_ret (pv 7)))))))))))), ?_⟩
    walk_at "k"
    have s0 : Stt H [] [] H := Stt.nil
    have c1 := T.c_Span
    have c2 := T.a_Span_over
    have c3 := T.a_Span_under
    have hlen := cut_len hc
    have bad : okT neg h u = false → ∀ (σ' : L2.St) (H' : Hp), Kp [] H H' → tMkO (He.ga K "BadText") (spExI (He.ga K "BadText") "line") [] (tCons (tC (.int 1)) tNil) σ' H' (fun cls d H'' => E cls d H'') :=
      fun e σ' H' kp => badT fun d hd => k2 e d H' kp hd
    walk_at "rd"
    rw [cut_body hc]
    cases u with
    | none =>
      have e0 : h ++ tlU none = h := List.append_nil h
      rw [e0] at hlen ⊢
      refine Rd.prtN s0 (by omega) hc.free fun p H1 hp s1 => ?_
      walk_at "rd"
      refine figs_ask (s1.sub (List.nil_sublist _)) (by omega) fun H2 s2 => ?_
      walk_at "rd"
      refine Rd.br (fun f1 => ?_) (fun f1 => ?_)
      · walk_at "rd"
        refine Rd.brJ (fun e => by have := strS_eq.mp e; cases this) ?_
        walk_at "rd"
        rw [cut_head hc]
        refine Rd.cut (fun σ' H' => σ' = [some (TS t), some (TS h), some (TS []), some (TS []), some (.bl neg), none, none, none] ∧ (neg = true → h ≠ [48]) ∧ Stt H [] [] H') ?_ ?_
        · walk_at "rd"
          have tail : (neg = true → h ≠ [48]) → ∀ {G : Prop}, G → G := fun _ _ g => g
          refine Rd.br (fun n1 => ?_) (fun n1 => ?_)
          · walk_at "rd"
            refine Rd.brD (fun e => ?_) (fun e => ?_)
            · walk_at "rd"
              refine bad ?_ _ _ s2.keep
              have e2 : h = [48] := strS_eq.mp e
              unfold okT
              rw [n1, decide_eq_true e2]
              simp
            · have e2 : h ≠ [48] := fun z => e (strS_eq.mpr z)
              walk_at "rd"
              rename_i s3
              refine Rd.inT s3 (by walk_at "mem") rfl rfl ?_
              rw [show inV (TS []) [TS [48], TS [49]] = false by decide +kernel]
              walk_at "rd"
              exact ⟨rfl, fun _ => e2, s3.sub (List.nil_sublist _)⟩
          · walk_at "rd"
            rename_i s3
            refine Rd.inT s3 (by walk_at "mem") rfl rfl ?_
            rw [show inV (TS []) [TS [48], TS [49]] = false by decide +kernel]
            walk_at "rd"
            exact ⟨rfl, (fun q => absurd (n1.symm.trans q) (by decide)), s3.sub (List.nil_sublist _)⟩
        · rintro σ' H3 ⟨rfl, hn, s3⟩
          have hb := dv_bound f1 (by omega)
          have ok : okT neg h none = true := by
            unfold okT
            rw [f1]
            cases neg with
            | false => rfl
            | true => simp [okU, hn rfl]
          walk_at "rd"
          refine val_ask s3 (by omega) (figs_dig f1) fun H4 s4 => ?_
          walk_at "rd"
          refine Rd.brJ (fun e => by have := strS_eq.mp e; cases this) ?_
          walk_at "rd"
          have g1 : Int.gcd (ovr neg h) 1 = 1 := by
            have z := ovr_gcd neg h 1
            rw [Nat.gcd_one_right] at z
            exact z
          have fin : ∀ (H' : Hp) (r : Addr) (z : Int), z = ovr neg h → Stt H [] [(r, SpanO K (nO z 1) (nU z 1))] H' → Stt H [] [(r, SpanO K (ovr neg h) (und none))] H' := fun H' r z e s => by
            rw [e, nO_one (by decide) g1, nU_one (by decide) g1] at s
            exact s
          have z1 : (1 : Int) ≠ 0 := by decide
          have z2 : (1 : Int).natAbs < 2 ^ 8000 := by decide +kernel
          have u1 : ∀ z : Int, nU z 1 = 1 := fun z => nU_one (by decide) (by simp)
          refine Rd.br (fun n1 => ?_) (fun n1 => ?_)
          · walk_at "rd"
            rename_i r H5 hr5 s5
            rw [u1]
            walk_at "rd"
            exact k1 ok r _ hr5 (fin _ _ _ (by rw [n1]; rfl) s5)
          · walk_at "rd"
            rename_i r H5 hr5 s5
            rw [u1]
            walk_at "rd"
            exact k1 ok r _ hr5 (fin _ _ _ (by rw [n1]; rfl) s5)
      · walk_at "rd"
        refine bad ?_ _ _ s2.keep
        unfold okT
        rw [f1]
        rfl
    | some v =>
      have e0 : h ++ tlU (some v) = h ++ 47 :: v := rfl
      rw [e0] at hlen ⊢
      have hl1 : h.length ≤ 90 := by rw [List.length_append] at hlen; omega
      have hl2 : v.length ≤ 90 := by rw [List.length_append, List.length_cons] at hlen; omega
      refine Rd.prtS s0 (by omega) hc.free fun p H1 hp s1 => ?_
      walk_at "rd"
      refine figs_ask (s1.sub (List.nil_sublist _)) (by omega) fun H2 s2 => ?_
      walk_at "rd"
      refine Rd.br (fun f1 => ?_) (fun f1 => ?_)
      · walk_at "rd"
        refine figs_ask s2 (by omega) fun H2 s2 => ?_
        walk_at "rd"
        refine Rd.br (fun f2 => ?_) (fun f2 => ?_)
        · walk_at "rd"
          rw [cut_head hc]
          have tl : okT neg h (some v) = (!(neg && decide (h = [48])) && (decide (v ≠ [48]) && decide (v ≠ [49]) && decide (Nat.gcd (NumText.digitsVal h) (NumText.digitsVal v) = 1))) := by
            show (figs h && !(neg && decide (h = [48])) && (figs v && decide (v ≠ [48]) && decide (v ≠ [49]) && decide (Nat.gcd (NumText.digitsVal h) (NumText.digitsVal v) = 1))) = _
            rw [f1, f2]
            rfl
          have hin : inV (TS v) [TS [48], TS [49]] = (decide (v = [48]) || decide (v = [49])) := by
            show ((eqV (TS [48]) (TS v)) || ((eqV (TS [49]) (TS v)) || false)) = _
            show ((SX.S [48] == SX.S v) || ((SX.S [49] == SX.S v) || false)) = _
            rw [SX.S_beq_eq, SX.S_beq_eq, Bool.or_false, Bool.eq_iff_iff]
            simp only [Bool.or_eq_true, decide_eq_true_iff]
            exact ⟨fun h => h.imp Eq.symm Eq.symm, fun h => h.imp Eq.symm Eq.symm⟩
          refine Rd.cut (fun σ' H' => σ' = [some (TS t), some (TS h), some (TS [47]), some (TS v), some (.bl neg), none, none, none] ∧ ((neg = true → h ≠ [48]) ∧ v ≠ [48] ∧ v ≠ [49]) ∧ Stt H [] [] H') ?_ ?_
          · walk_at "rd"
            have tail : (neg = true → h ≠ [48]) → True := fun _ => trivial
            refine Rd.br (fun n1 => ?_) (fun n1 => ?_)
            · walk_at "rd"
              refine Rd.brD (fun e => ?_) (fun e => ?_)
              · walk_at "rd"
                refine bad ?_ _ _ s2.keep
                rw [tl, n1, decide_eq_true (strS_eq.mp e)]
                simp
              · have e2 : h ≠ [48] := fun z => e (strS_eq.mpr z)
                walk_at "rd"
                rename_i s3
                refine Rd.inT s3 (by walk_at "mem") rfl rfl ?_
                rw [hin]
                walk_at "rd"
                refine Rd.br (fun e3 => ?_) (fun e3 => ?_)
                · walk_at "rd"
                  refine bad ?_ _ _ s3.keep
                  rw [tl]
                  simp only [Bool.or_eq_true, decide_eq_true_iff] at e3
                  rcases e3 with e3 | e3 <;> simp [e3]
                · walk_at "rd"
                  simp only [Bool.or_eq_false_iff, decide_eq_false_iff_not] at e3
                  exact ⟨rfl, ⟨fun _ => e2, e3⟩, s3.sub (List.nil_sublist _)⟩
            · walk_at "rd"
              rename_i s3
              refine Rd.inT s3 (by walk_at "mem") rfl rfl ?_
              rw [hin]
              walk_at "rd"
              refine Rd.br (fun e3 => ?_) (fun e3 => ?_)
              · walk_at "rd"
                refine bad ?_ _ _ s3.keep
                rw [tl]
                simp only [Bool.or_eq_true, decide_eq_true_iff] at e3
                rcases e3 with e3 | e3 <;> simp [e3]
              · walk_at "rd"
                simp only [Bool.or_eq_false_iff, decide_eq_false_iff_not] at e3
                exact ⟨rfl, ⟨fun q => absurd (n1.symm.trans q) (by decide), e3⟩, s3.sub (List.nil_sublist _)⟩
          · rintro σ' H3 ⟨rfl, ⟨hn, hv0, hv1⟩, s3⟩
            have hb := dv_bound f1 (by omega)
            have hb2 := dv_bound f2 (by omega)
            have hz : NumText.digitsVal v ≠ 0 := fun z => hv0 ((figs_zero f2).mp z)
            have tl2 : okT neg h (some v) = decide (Nat.gcd (NumText.digitsVal h) (NumText.digitsVal v) = 1) := by
              rw [tl, decide_eq_true hv0, decide_eq_true hv1]
              cases neg with
              | false => rfl
              | true => rw [decide_eq_false (hn rfl)]; rfl
            walk_at "rd"
            refine val_ask s3 (by omega) (figs_dig f1) fun H4 s4 => ?_
            walk_at "rd"
            refine val_ask s4 (by omega) (figs_dig f2) fun H5 s5 => ?_
            walk_at "rd"
            have z1 : ((NumText.digitsVal v : Nat) : Int) ≠ 0 := by omega
            have z2 : ((NumText.digitsVal v : Nat) : Int).natAbs < 2 ^ 8000 := by
              rw [Int.natAbs_natCast]
              exact Nat.lt_of_lt_of_le hb2 (by decide +kernel)
            have zp : (0 : Int) < ((NumText.digitsVal v : Nat) : Int) := by omega
            have last : ∀ (z : Int) (r : Addr) (H6 : Hp) (σ' : L2.St), z = ovr neg h → H r = none → Stt H [] [(r, SpanO K (nO z ((NumText.digitsVal v : Nat) : Int)) (nU z ((NumText.digitsVal v : Nat) : Int)))] H6 →
                Rd.Br (decide (V.int (nU z ((NumText.digitsVal v : Nat) : Int)) = V.int ((NumText.digitsVal v : Nat) : Int))) (Q (.ref r) H6)
                  (tMkO (He.ga K (Str.ofString "BadText")) (spExI (He.ga K (Str.ofString "BadText")) (Str.ofString "line")) [] (tCons (tC (V.int 1)) tNil) σ' H6 fun cls d H' => E cls d H') := fun z r H6 σ' ez hr s => by
              have hg : Int.gcd z ((NumText.digitsVal v : Nat) : Int) = Nat.gcd (NumText.digitsVal h) (NumText.digitsVal v) := by rw [ez]; exact ovr_gcd neg h _
              by_cases g : Nat.gcd (NumText.digitsVal h) (NumText.digitsVal v) = 1
              · rw [nO_one zp (hg.trans g), nU_one zp (hg.trans g), ez] at s
                rw [nU_one zp (hg.trans g)]
                refine Rd.brI rfl ?_
                exact k1 (by rw [tl2]; exact decide_eq_true g) r _ hr s
              · refine Rd.brJ (fun e => ?_) (bad (by rw [tl2]; exact decide_eq_false g) _ _ s.keep)
                have e2 := V.int.inj e
                unfold nU at e2
                rw [if_neg (by omega), hg] at e2
                have g0 : 0 < Nat.gcd (NumText.digitsVal h) (NumText.digitsVal v) := Nat.gcd_pos_of_pos_right _ (by omega)
                have e3 : NumText.digitsVal v / Nat.gcd (NumText.digitsVal h) (NumText.digitsVal v) = NumText.digitsVal v := by exact_mod_cast e2
                have e4 : NumText.digitsVal v / Nat.gcd (NumText.digitsVal h) (NumText.digitsVal v) < NumText.digitsVal v := Nat.div_lt_self (by omega) (by omega)
                omega
            refine Rd.br (fun n1 => ?_) (fun n1 => ?_)
            · walk_at "rd"
              rename_i r H6 hr6 s6
              refine brM (last _ r H6 _ (by rw [n1]; rfl) hr6 s6) (fun q => ?_) (fun q => q)
              walk_at "rd"
              exact q
            · walk_at "rd"
              rename_i r H6 hr6 s6
              refine brM (last _ r H6 _ (by rw [n1]; rfl) hr6 s6) (fun q => ?_) (fun q => q)
              walk_at "rd"
              exact q
        · walk_at "rd"
          refine bad ?_ _ _ s2.keep
          show (figs h && !(neg && decide (h = [48])) && (figs v && decide (v ≠ [48]) && decide (v ≠ [49]) && decide (Nat.gcd (NumText.digitsVal h) (NumText.digitsVal v) = 1))) = false
          rw [f1, f2]
          simp
      · walk_at "rd"
        refine bad ?_ _ _ s2.keep
        unfold okT
        rw [f1]
        rfl
end

end
section
local macro_rules | `(tactic| walk_at "subl") => `(tactic| first | with_reducible exact List.nil_sublist _ | with_reducible exact List.Sublist.refl _ | (with_reducible refine List.Sublist.cons₂ _ ?_; walk_at "subl") | (with_reducible refine List.Sublist.cons _ ?_; walk_at "subl"))
local macro_rules | `(tactic| walk_at "k") => `(tactic| try dsimp only [L2.cxOf, L2.Cx.nox, L2.Cx.wish, L2.Cx.blk])
local macro_rules | `(tactic| walk_at "ask") => `(tactic| fail)
local macro_rules | `(tactic| walk_at "mem") => `(tactic| first | with_reducible exact List.mem_cons_self | (with_reducible apply List.mem_cons_of_mem; walk_at "mem"))
local macro_rules | `(tactic| walk_at "put") => `(tactic| first | with_reducible exact Lt.Put.head | (with_reducible apply Lt.Put.tail; walk_at "put"))
local macro_rules | `(tactic| walk_at "own") => `(tactic| first | exact Or.inr (by assumption) | exact Or.inl (by walk_at "mem"))
local macro_rules | `(tactic| walk_at "cnd") => `(tactic| first | assumption | decide | ((try dsimp only); omega) | (unfold CMul; omega) | (unfold CDiv; omega) | (unfold CPow; omega) | exact Or.inr (by decide) | exact Or.inl (by decide) | exact wide_div (b := 128) (by omega) (by omega) (by decide) (by decide))
local macro_rules | `(tactic| walk_at "at") => `(tactic| first | exact rfl | assumption)
local macro_rules | `(tactic| walk_at "kit") => `(tactic| first | assumption | exact kit_int_int | exact kit_int_bool | exact kit_int_str | exact kit_int_list | exact kit_int_tuple | exact kit_int_dict | exact kit_bool_int | exact kit_bool_bool | exact kit_bool_str | exact kit_bool_list | exact kit_bool_tuple | exact kit_bool_dict | exact kit_str_int | exact kit_str_bool | exact kit_str_str | exact kit_str_list | exact kit_str_tuple | exact kit_str_dict | exact kit_list_int | exact kit_list_bool | exact kit_list_str | exact kit_list_list | exact kit_list_tuple | exact kit_list_dict | exact kit_tuple_int | exact kit_tuple_bool | exact kit_tuple_str | exact kit_tuple_list | exact kit_tuple_tuple | exact kit_tuple_dict | exact kit_dict_int | exact kit_dict_bool | exact kit_dict_str | exact kit_dict_list | exact kit_dict_tuple | exact kit_dict_dict | exact kit_NoneType_int | exact kit_NoneType_bool | exact kit_NoneType_str | exact kit_NoneType_list | exact kit_NoneType_tuple | exact kit_NoneType_dict)
local macro_rules | `(tactic| walk_at "kitA") => `(tactic| first | assumption | exact kitA_lt_int | exact kitA_lt_bool | exact kitA_lt_str | exact kitA_lt_list | exact kitA_lt_tuple | exact kitA_lt_dict | exact kitA_lt_NoneType | exact kitA_bilt_int | exact kitA_bilt_bool | exact kitA_bilt_str | exact kitA_bilt_list | exact kitA_bilt_tuple | exact kitA_bilt_dict | exact kitA_bilt_NoneType)
local macro_rules | `(tactic| walk_at "ty") => `(tactic| first | exact .base (.int _) | exact .base (.bl _) | exact .base (.str _) | exact .base .non | exact .base (.lst (Stt.get (by assumption) (by walk_at "mem"))) | exact .base (.tup (Stt.get (by assumption) (by walk_at "mem"))) | exact .base (.dK (Stt.get (by assumption) (by walk_at "mem"))) | exact sqL_ty (Stt.upL (by assumption) (by assumption)) | exact sqT_ty (Stt.upT (by assumption) (by assumption)) | exact InsT.ty (by assumption) (Stt.get (by assumption) (by walk_at "mem")) | assumption)
local macro_rules | `(tactic| walk_at "rd1") => `(tactic| first
  | with_reducible refine' Rd.seq ?_
  | with_reducible refine' Rd.asg ?_
  | ((with_reducible refine' Rd.var ?vh ?_); (case vh => exact rfl))
  | with_reducible refine' Rd.con ?_
  | with_reducible refine' Rd.op ?_
  | with_reducible refine' Rd.i0 ?_
  | ((with_reducible refine' Rd.ic ?vh ?_); (case vh => walk_at "cnd"))
  | ((with_reducible refine' Rd.ixL ?v1 ?v2 ?v3 ?_); (case v1 => assumption); (case v2 => walk_at "mem"); (case v3 => walk_at "at"))
  | ((with_reducible refine' Rd.ixT ?v1 ?v2 ?v3 ?_); (case v1 => assumption); (case v2 => walk_at "mem"); (case v3 => walk_at "at"))
  | ((with_reducible refine' Rd.ixD2 ?v1 ?v2 ?_); (case v1 => assumption); (case v2 => walk_at "mem"); intro _)
  | ((with_reducible refine' Rd.ixD3 ?v1 ?v2 ?_); (case v1 => assumption); (case v2 => walk_at "mem"); intro _)
  | ((with_reducible refine' Rd.setD2 ?v1 ?v2 ?v3 ?v4 ?_); (case v1 => assumption); (case v2 => walk_at "mem"); (case v3 => walk_at "put"); (case v4 => walk_at "own"); intro _ _)
  | ((with_reducible refine' Rd.isi ?v1 ?v2 ?v3 ?_); (case v1 => walk_at "ty"); (case v2 => first | exact ClsV.ty _ | exact ClsV.own _); (case v3 => walk_at "kit"))
  | with_reducible refine' Rd.fld ?_
  | ((with_reducible refine' Rd.fldI ?v1 ?v2 ?v3 ?v4 ?v5 ?_); (case v1 => assumption); (case v2 => walk_at "mem"); (case v3 => assumption); (case v4 => assumption); (case v5 => walk_at "at"))
  | with_reducible refine' Rd.sfld ?_
  | ((with_reducible refine' Rd.sfldI ?v1 ?v2 ?v3 ?v4 ?v5 ?v6 ?v7 ?_); (case v1 => assumption); (case v2 => walk_at "mem"); (case v3 => assumption); (case v4 => assumption); (case v5 => first | decide | (refine Nat.lt_of_le_of_lt (putF_len _ _ _) ?_; decide)); (case v6 => walk_at "put"); (case v7 => walk_at "own"); intro _ _)
  | with_reducible refine' Rd.make ?_
  | with_reducible refine' Rd.gcd ?_
  | with_reducible refine' Rd.cons ?_
  | with_reducible refine' Rd.nil ?_
  | with_reducible refine' Rd.cb ?_
  | with_reducible refine' Rd.intI ?_
  | with_reducible refine' Rd.absI ?_
  | ((with_reducible refine' Rd.lenL ?v1 ?v2 ?_); (case v1 => assumption); (case v2 => walk_at "mem"))
  | ((with_reducible refine' Rd.lenT ?v1 ?v2 ?_); (case v1 => assumption); (case v2 => walk_at "mem"))
  | ((with_reducible refine' Rd.lenBL ?v1 ?v2 ?v3 ?_); (case v1 => assumption); (case v2 => assumption); (case v3 => first | exact List.not_mem_nil | assumption))
  | ((with_reducible refine' Rd.lenBT ?v1 ?v2 ?v3 ?_); (case v1 => assumption); (case v2 => assumption); (case v3 => first | exact List.not_mem_nil | assumption))
  | ((with_reducible refine' Rd.ixBL ?v1 ?v2 ?v4 ?v3 ?_); (case v1 => assumption); (case v2 => assumption); (case v4 => first | exact List.not_mem_nil | assumption); (case v3 => walk_at "at"))
  | ((with_reducible refine' Rd.ixBT ?v1 ?v2 ?v4 ?v3 ?_); (case v1 => assumption); (case v2 => assumption); (case v4 => first | exact List.not_mem_nil | assumption); (case v3 => walk_at "at"))
  | ((with_reducible refine' Rd.brI ?vh ?_); (case vh => with_reducible exact rfl))
  | with_reducible refine' Rd.ifS ?_
  | with_reducible refine' Rd.test ?_
  | with_reducible refine' Rd.tbl ?_
  | with_reducible refine' Rd.bl ?_
  | with_reducible refine' Rd.brTT ?_
  | with_reducible refine' Rd.brFF ?_
  | with_reducible refine' Rd.brN ?_
  | ((with_reducible refine' Rd.aug ?vh ?_); (case vh => exact rfl))
  | with_reducible refine' Rd.ipI ?_
  | with_reducible refine' Rd.blV ?_
  | with_reducible refine' Rd.notVL ?_
  | with_reducible refine' Rd.andT ?_
  | with_reducible refine' Rd.orT ?_
  | with_reducible refine' Rd.notT ?_
  | with_reducible refine' Rd.andV ?_
  | with_reducible refine' Rd.orV ?_
  | with_reducible refine' Rd.notV ?_
  | with_reducible refine' Rd.ifE ?_
  | ((with_reducible refine' Rd.eqS ?vh ?_); (case vh => exact rfl))
  | ((with_reducible refine' Rd.neS ?vh ?_); (case vh => exact rfl))
  | with_reducible refine' Rd.par ?_
  | with_reducible refine' Rd.parL ?_
  | with_reducible refine' Rd.un ?_
  | with_reducible refine' Rd.u1 ?_
  | with_reducible refine' Rd.sub ?_
  | ((with_reducible refine' Rd.setL ?v1 ?v2 ?v3 ?v4 ?v5 ?_); (case v1 => assumption); (case v2 => walk_at "mem"); (case v3 => walk_at "at"); (case v4 => walk_at "put"); (case v5 => walk_at "own"); intro _ _)
  | with_reducible refine' Rd.tup ?_
  | with_reducible refine' Rd.lst ?_
  | ((with_reducible refine' Rd.tupN ?v1 ?v2 ?_); (case v1 => assumption); (case v2 => simp only [List.length_cons, List.length_nil]; decide); intro _ _ _ _)
  | ((with_reducible refine' Rd.lstN ?v1 ?v2 ?_); (case v1 => assumption); (case v2 => simp only [List.length_cons, List.length_nil]; decide); intro _ _ _ _)
  | with_reducible refine' Rd.ret ?_
  | with_reducible refine' Rd.drop ?_
  | with_reducible refine' Rd.retN ?_
  | with_reducible refine' Rd.next ?_
  | with_reducible refine' Rd.brk ?_
  | with_reducible refine' Rd.cont ?_
  | with_reducible refine' Rd.call ?_
  | walk_at "ask"
  | with_reducible refine' Rd.bm ?_
  | ((with_reducible refine' Rd.bmL ?v1 ?v2 ?_); (case v1 => assumption); (case v2 => walk_at "mem"))
  | ((with_reducible refine' Rd.app ?v1 ?v2 ?v3 ?v4 ?v5 ?_); (case v1 => assumption); (case v2 => walk_at "mem"); (case v3 => simp only [List.length_cons, List.length_nil, List.length_append]; omega); (case v4 => walk_at "put"); (case v5 => walk_at "own"); intro _ _)
  | with_reducible refine' Rd.asgT ?_
  | ((with_reducible refine' Rd.gtup ?v1 ?v2 ?v3 ?_); (case v1 => assumption); (case v2 => walk_at "mem"); (case v3 => exact rfl))
  | with_reducible refine' Rd.gcons ?_
  | with_reducible refine' Rd.gname ?_
  | with_reducible refine' Rd.gnil ?_
  | with_reducible refine' Rd.sl ?_
  | with_reducible refine' Rd.noPart ?_
  | with_reducible refine' Rd.part ?_
  | with_reducible refine' Rd.prt ?_
  | with_reducible refine' Rd.isB ?_
  | ((with_reducible refine' Rd.wp ?vh ?_); (case vh => exact rfl))
  | with_reducible refine' Rd.makeK ?_
  | with_reducible refine' Rd.meth ?_
  | ((with_reducible refine' Rd.catL ?v1 ?v2 ?v3 ?v4 ?_); (case v1 => assumption); (case v2 => walk_at "mem"); (case v3 => walk_at "mem"); (case v4 => simp only [List.length_cons, List.length_nil, List.length_append]; omega); intro _ _ _ _)
  | with_reducible refine' Rd.dnew ?_
  | ((with_reducible refine' Rd.dnewL ?v1 ?_); (case v1 => assumption); intro _ _ _ _)
  | with_reducible refine' Rd.lc ?_
  | with_reducible refine' Rd.wZ ?_
  | with_reducible refine' Rd.tYesH ?_
  | with_reducible refine' Rd.fmt ?_
  | with_reducible refine' Rd.joined ?_
  | with_reducible refine' Rd.jsNil ?_
  | with_reducible refine' Rd.jsCons ?_
  | ((with_reducible refine' Rd.isiT ?v1 ?v2 ?v3 ?v4 ?v5 ?_); (case v1 => assumption); (case v2 => walk_at "mem"); (case v3 => walk_at "ty"); (case v4 => first | exact .cons (.ty _) (.cons (.ty _) .nil) | exact .cons (.ty _) (.cons (.ty _) (.cons (.ty _) (.cons (.ty _) .nil))) | exact .cons (.ty _) (.cons (.ty _) (.cons (.ty _) .nil))); (case v5 => walk_at "kitA"))
  | with_reducible refine' Rd.forS ?_
  | with_reducible refine' Rd.wEnT ?_
  | ((with_reducible refine' Rd.wEnTL ?v1 ?v2 ?_); (case v1 => assumption); (case v2 => walk_at "mem"))
  | with_reducible refine' Rd.wL ?_
  | ((with_reducible refine' Rd.wLL ?v1 ?v2 ?_); (case v1 => assumption); (case v2 => walk_at "mem"))
  | with_reducible refine' Rd.wT ?_
  | ((with_reducible refine' Rd.wTL ?v1 ?v2 ?_); (case v1 => assumption); (case v2 => walk_at "mem"))
  | with_reducible refine' Rd.wR1 ?_
  | ((with_reducible refine' Rd.wR1L ?v1 ?v2 ?_); (case v1 => omega); (case v2 => omega))
  | with_reducible refine' Rd.wR2 ?_
  | ((with_reducible refine' Rd.wR2L ?v1 ?_); (case v1 => omega)))
local macro_rules | `(tactic| walk_at "rd") => `(tactic| repeat (walk_at "rd1"))

local macro_rules | `(tactic| walk_at "ask") => `(tactic| ((with_reducible refine' fill_ask ?v1 ?v2 ?v3 ?v4 ?v5 ?_); (case v1 => assumption); (case v2 => walk_at "mem"); (case v3 => walk_at "mem"); (case v4 => assumption); (case v5 => walk_at "own"); intro _ _))

local macro_rules | `(tactic| walk_at "ask") => `(tactic| ((with_reducible refine' take_ask ?v1 ?v2 ?v3 ?v4 ?v5 ?v6 ?_); (case v1 => assumption); (case v2 => walk_at "mem"); (case v3 => walk_at "mem"); (case v4 => assumption); (case v5 => walk_at "own"); (case v6 => first | decide | omega); intro _ _ _ _))
local macro_rules | `(tactic| walk_at "ask") => `(tactic| ((with_reducible refine' one_ask ?v1 ?v2 ?v3 ?v4 ?v5 ?_); (case v1 => assumption); (case v2 => walk_at "subl"); (case v3 => assumption); (case v4 => walk_at "own"); (case v5 => simp only [List.length_append, List.length_cons, List.length_nil]; decide); intro _ _ _ _))
local macro_rules | `(tactic| walk_at "ask") => `(tactic| ((with_reducible refine' fig_ask ?v1 ?v2 ?v3 ?v4 ?_); (case v1 => assumption); (case v2 => walk_at "subl"); (case v3 => assumption); (case v4 => walk_at "own"); intro _ _ _ _))
local macro_rules | `(tactic| walk_at "ask") => `(tactic| ((with_reducible refine' low_ask ?v1 ?v2 ?v3 ?v4 ?_); (case v1 => assumption); (case v2 => first | assumption | omega); (case v3 => omega); (case v4 => omega); intro _ _ _ _))
local macro_rules | `(tactic| walk_at "ask") => `(tactic| ((with_reducible refine' frac_ask ?v1 ?v2 ?v3 ?v4 ?_); (case v1 => assumption); (case v2 => walk_at "subl"); (case v3 => assumption); (case v4 => walk_at "own"); intro _ _ _ _ _ _ _))

local macro_rules | `(tactic| walk_at "ask") => `(tactic| with_reducible refine' isI_int ?_)
local macro_rules | `(tactic| walk_at "ask") => `(tactic| ((with_reducible refine' mk_span ?v1 ?v2 ?v3 ?_); (case v1 => assumption); (case v2 => first | assumption | omega); (case v3 => first | assumption | omega); intro _ _ _ _))
local macro_rules | `(tactic| walk_at "ask") => `(tactic| ((with_reducible refine' mk_span1 ?v1 ?_); (case v1 => assumption); intro _ _ _ _))
local macro_rules | `(tactic| walk_at "ask") => `(tactic| ((with_reducible refine' fld_over ?v1 ?v2 ?v3 ?v4 ?_); (case v1 => assumption); (case v2 => assumption); (case v3 => assumption); (case v4 => walk_at "mem")))
local macro_rules | `(tactic| walk_at "ask") => `(tactic| ((with_reducible refine' fld_under ?v1 ?v2 ?v3 ?v4 ?_); (case v1 => assumption); (case v2 => assumption); (case v3 => assumption); (case v4 => walk_at "mem")))
local macro_rules | `(tactic| walk_at "ty") => `(tactic| exact span_ty (by assumption) (by assumption) (by walk_at "mem"))

local macro_rules | `(tactic| walk_at "ask") => `(tactic| with_reducible refine' Rd.bmS ?_)
local macro_rules | `(tactic| walk_at "ask") => `(tactic| with_reducible refine' Rd.stw ?_)
local macro_rules | `(tactic| walk_at "ask") => `(tactic| ((with_reducible refine' Rd.rmp ?v1 ?_); (case v1 => omega)))
local macro_rules | `(tactic| walk_at "ask") => `(tactic| with_reducible refine' Rd.inSg ?_)
local macro_rules | `(tactic| walk_at "ask") => `(tactic| with_reducible refine' Rd.wS ?_)
local macro_rules | `(tactic| walk_at "ask") => `(tactic| with_reducible refine' Rd.wSL ?_)

section
variable {P : Program} {w : World} {K : PySem.W.Frag} {mg : Str → Option Value} {base : Heap}
theorem over_text {a b : Int} : ([("over", V.int a), ("under", V.int b)] : List (Str × V)).lookup ("text" : Str) = none := by
  have t1 : ((("text" : Str)) == "over") = false := by decide +kernel
  have t2 : ((("text" : Str)) == "under") = false := by decide +kernel
  simp only [List.lookup, t1, t2]
def spTried (K : PySem.W.Frag) : Sp := fun vs H Q _ => ∃ (t : List Nat) (neg : Bool) (h : List Nat) (u : Option (List Nat)), vs = [TS t] ∧ Cut t neg h u ∧ t.length ≤ 90 ∧
  (okT neg h u = true → ∀ r H', H r = none → Stt H [] [(r, Is (.tup [TS [109, 97, 100, 101], .int (ovr neg h), .int (und u), TS t]))] H' → Q (.ref r) H') ∧
  (okT neg h u = false → ∀ r H', H r = none → Stt H [] [(r, Is (.tup [TS [116, 101, 120, 116], .int 1]))] H' → Q (.ref r) H')
theorem und_pos {neg : Bool} {h : List Nat} {u : Option (List Nat)} (k : okT neg h u = true) : 0 < und u := by
  cases u with
  | none => decide
  | some v =>
    unfold okT at k
    have k3 := (Bool.and_eq_true_iff.mp k).2
    have k4 : (figs v && decide (v ≠ [48]) && decide (v ≠ [49]) && decide (Nat.gcd (NumText.digitsVal h) (NumText.digitsVal v) = 1)) = true := k3
    rw [Bool.and_eq_true, Bool.and_eq_true, Bool.and_eq_true, decide_eq_true_iff] at k4
    have hz : NumText.digitsVal v ≠ 0 := fun z => k4.1.1.2 ((figs_zero k4.1.1.1).mp z)
    show (0 : Int) < ((NumText.digitsVal v : Nat) : Int)
    omega
theorem ok_bounds {t : List Nat} {neg : Bool} {h : List Nat} {u : Option (List Nat)} (hc : Cut t neg h u) (hl : t.length ≤ 90) (k : okT neg h u = true) : (ovr neg h).natAbs < 10 ^ 100 ∧ (und u).natAbs < 10 ^ 100 := by
  have hlen := cut_len hc
  rw [List.length_append] at hlen
  have k' := k
  unfold okT at k'
  have k1 := (Bool.and_eq_true_iff.mp (Bool.and_eq_true_iff.mp k').1).1
  have b1 := dv_bound k1 (by omega)
  refine ⟨?_, ?_⟩
  · unfold ovr
    split
    · rw [Int.natAbs_neg, Int.natAbs_natCast]; exact Nat.lt_of_lt_of_le b1 (by decide +kernel)
    · rw [Int.natAbs_natCast]; exact Nat.lt_of_lt_of_le b1 (by decide +kernel)
  · cases u with
    | none => decide +kernel
    | some v =>
      have k3 := (Bool.and_eq_true_iff.mp k').2
      have k4 : (figs v && decide (v ≠ [48]) && decide (v ≠ [49]) && decide (Nat.gcd (NumText.digitsVal h) (NumText.digitsVal v) = 1)) = true := k3
      rw [Bool.and_eq_true, Bool.and_eq_true, Bool.and_eq_true] at k4
      have lv : v.length ≤ 90 := by
        have : (tlU (some v)).length = v.length + 1 := rfl
        omega
      show ((NumText.digitsVal v : Nat) : Int).natAbs < 10 ^ 100
      rw [Int.natAbs_natCast]
      exact Nat.lt_of_lt_of_le (dv_bound k4.1.1.1 lv) (by decide +kernel)
theorem ok_l_tried (T : Txt K mg) : FnOk P w K mg base CX0 6 (He.fAd K ("_law_tried", none)) T.fd_l_tried ["_law_text_here"] (spTried K) := by
  refine T.F_l_tried.ok sc_l_tried (fun vs H Q E h => ?_) (fun cdv A outer s H vs Q E hr h => ?_)
  · obtain ⟨t, neg, h, u, rfl, _⟩ := h
    rfl
  · obtain ⟨t, neg, h, u, rfl, hc, hl, k1, k2⟩ := h
    refine ⟨_, PSs.nox (pss_cons (ps_asg (pe_tup (pa_cons (Lt.pe_strL (l := [111, 100, 100]) (by decide +kernel)) pa_nil)) (pg_name (i := 1) sc_l_tried.nd rfl (by first | exact Or.inl rfl | exact Or.inr rfl)))
  (pss_cons (ps_try_as (i := 3) (tb := fun W => tSeq (tAsg (tSMeth (He.ga K "Span") (spOf K) (WE W) (tC (.ref (He.ga K "Span"))) (tCons (tVar 0) tNil)) (gName 2)) (tAsg (tTup (tCons (tC (TS [109, 97, 100, 101])) (tCons (tFld K (tVar 2) "over") (tCons (tFld K (tVar 2) "under") (tCons (tMeth (He.ga K "Span") "text" (spText K) [] E0 (tVar 2) tNil) tNil))))) (gName 1))) (ts := fun a cls d => tAsg (tTup (tCons (tC (TS [116, 101, 120, 116])) (tCons (tXf a cls d (He.ga K "BadText") "line" (tVar 3)) tNil))) (gName 1)) (Wout := fun _ _ _ _ => False) rfl rfl sc_l_tried.nd rfl rfl ⟨rfl, by decide, Or.inl T.g_BadText⟩ takes0 (fun W pn xe tk _ => (pss_cons (ps_asg (by exact (pe_smeth (pe_glob (v := .ref (He.ga K "Span")) rfl T.g_Span RelT.ref) T.s_Span_of_text (ok_Span_of_text T) T.F_Span_of_text.kp (hr.mono (by decide)) T.b_Span_of_text (fun σ => passAt tk σ) (pa_cons (pv 0) pa_nil))) (pg_name (i := 2) sc_l_tried.nd rfl (by first | exact Or.inl rfl | exact Or.inr rfl))) (pss_one (ps_asg (by exact (pe_tup (pa_cons (Lt.pe_strL (l := [109, 97, 100, 101]) (by decide +kernel)) (pa_cons (pe_fld (pv 2) rfl) (pa_cons (pe_fld (pv 2) rfl) (pa_cons (pe_meth0 (pv 2) T.c_Span T.m_Span_text (ok_Span_text T) (hr.mono (by decide)) T.b_Span_text .nil pass0) pa_nil)))))) (pg_name (i := 1) sc_l_tried.nd rfl (by first | exact Or.inl rfl | exact Or.inr rfl)))))) (fun a oe cls d pn hz hf => (pss_one (ps_asg (by exact (pe_tup (pa_cons (Lt.pe_strL (l := [116, 101, 120, 116]) (by decide +kernel)) (pa_cons (pe_xf T.x_BadText.xf T.a_BadText_line hz hf (pv 3)) pa_nil)))) (pg_name (i := 1) sc_l_tried.nd rfl (by first | exact Or.inl rfl | exact Or.inr rfl))))))
  (pss_one (ps_ret (pv 1))))), ?_⟩
    walk_at "k"
    have s0 : Stt H [] [] H := Stt.nil
    have c1 := T.c_Span
    have c2 := T.a_Span_over
    have c3 := T.a_Span_under
    walk_at "rd"
    rename_i p H1 hp s1
    refine Rd.smeth ?_
    walk_at "rd"
    refine ⟨rfl, ?_⟩
    walk_at "rd"
    refine ⟨t, neg, h, u, rfl, hc, hl, fun ok q H2 hq s2 => ?_, fun no d H2 kp hd => ?_⟩
    · obtain ⟨b1, b2⟩ := ok_bounds hc hl ok
      have s3 : Stt H [] ((q, SpanO K (ovr neg h) (und u)) :: [(p, Is (.tup [TS [111, 100, 100]]))]) H2 := (s1.after0 s2.keep).add (s2.pick (by walk_at "mem")) (s1.fresh hq)
      obtain ⟨o, g1, dx, rfl⟩ := s2.pick (a := q) (f := SpanO K (ovr neg h) (und u)) (by walk_at "mem")
      walk_at "rd"
      refine ⟨q, dx, _, rfl, g1, over_text, ?_⟩
      walk_at "rd"
      refine text_ask c1 s3 (by walk_at "mem") (und_pos ok) b1 b2 ?_
      rw [okT_txt ok, ← hc.eq]
      walk_at "rd"
      rename_i r H3 hr3 s4
      exact k1 ok r _ hr3 (s4.sub (by walk_at "subl"))
    · refine ⟨true, T.x_BadText.te, fun _ a ha => ?_, fun z => Bool.noConfusion z⟩
      have s3 : Stt H [] ((d, Is (.xd [("line", V.int 1)])) :: [(p, Is (.tup [TS [111, 100, 100]]))]) (upd H2 d (.xd [("line", V.int 1)])) := (s1.after0 kp).new hd _
      show tAsg _ _ _ _ _
      walk_at "rd"
      refine ⟨_, rfl, rfl, rfl, d, _, _, rfl, upd_same, rfl, ?_⟩
      walk_at "rd"
      rename_i r H3 hr3 s4
      exact k2 no r _ hr3 (s4.sub (by walk_at "subl"))
end

end
section
local macro_rules | `(tactic| walk_at "subl") => `(tactic| first | with_reducible exact List.nil_sublist _ | with_reducible exact List.Sublist.refl _ | (with_reducible refine List.Sublist.cons₂ _ ?_; walk_at "subl") | (with_reducible refine List.Sublist.cons _ ?_; walk_at "subl"))
local macro_rules | `(tactic| walk_at "k") => `(tactic| try dsimp only [L2.cxOf, L2.Cx.nox, L2.Cx.wish, L2.Cx.blk])
local macro_rules | `(tactic| walk_at "ask") => `(tactic| fail)
local macro_rules | `(tactic| walk_at "mem") => `(tactic| first | with_reducible exact List.mem_cons_self | (with_reducible apply List.mem_cons_of_mem; walk_at "mem"))
local macro_rules | `(tactic| walk_at "put") => `(tactic| first | with_reducible exact Lt.Put.head | (with_reducible apply Lt.Put.tail; walk_at "put"))
local macro_rules | `(tactic| walk_at "own") => `(tactic| first | exact Or.inr (by assumption) | exact Or.inl (by walk_at "mem"))
local macro_rules | `(tactic| walk_at "cnd") => `(tactic| first | assumption | decide | ((try dsimp only); omega) | (unfold CMul; omega) | (unfold CDiv; omega) | (unfold CPow; omega) | exact Or.inr (by decide) | exact Or.inl (by decide) | exact wide_div (b := 128) (by omega) (by omega) (by decide) (by decide))
local macro_rules | `(tactic| walk_at "at") => `(tactic| first | exact rfl | assumption)
local macro_rules | `(tactic| walk_at "kit") => `(tactic| first | assumption | exact kit_int_int | exact kit_int_bool | exact kit_int_str | exact kit_int_list | exact kit_int_tuple | exact kit_int_dict | exact kit_bool_int | exact kit_bool_bool | exact kit_bool_str | exact kit_bool_list | exact kit_bool_tuple | exact kit_bool_dict | exact kit_str_int | exact kit_str_bool | exact kit_str_str | exact kit_str_list | exact kit_str_tuple | exact kit_str_dict | exact kit_list_int | exact kit_list_bool | exact kit_list_str | exact kit_list_list | exact kit_list_tuple | exact kit_list_dict | exact kit_tuple_int | exact kit_tuple_bool | exact kit_tuple_str | exact kit_tuple_list | exact kit_tuple_tuple | exact kit_tuple_dict | exact kit_dict_int | exact kit_dict_bool | exact kit_dict_str | exact kit_dict_list | exact kit_dict_tuple | exact kit_dict_dict | exact kit_NoneType_int | exact kit_NoneType_bool | exact kit_NoneType_str | exact kit_NoneType_list | exact kit_NoneType_tuple | exact kit_NoneType_dict)
local macro_rules | `(tactic| walk_at "kitA") => `(tactic| first | assumption | exact kitA_lt_int | exact kitA_lt_bool | exact kitA_lt_str | exact kitA_lt_list | exact kitA_lt_tuple | exact kitA_lt_dict | exact kitA_lt_NoneType | exact kitA_bilt_int | exact kitA_bilt_bool | exact kitA_bilt_str | exact kitA_bilt_list | exact kitA_bilt_tuple | exact kitA_bilt_dict | exact kitA_bilt_NoneType)
local macro_rules | `(tactic| walk_at "ty") => `(tactic| first | exact .base (.int _) | exact .base (.bl _) | exact .base (.str _) | exact .base .non | exact .base (.lst (Stt.get (by assumption) (by walk_at "mem"))) | exact .base (.tup (Stt.get (by assumption) (by walk_at "mem"))) | exact .base (.dK (Stt.get (by assumption) (by walk_at "mem"))) | exact sqL_ty (Stt.upL (by assumption) (by assumption)) | exact sqT_ty (Stt.upT (by assumption) (by assumption)) | exact InsT.ty (by assumption) (Stt.get (by assumption) (by walk_at "mem")) | assumption)
local macro_rules | `(tactic| walk_at "rd1") => `(tactic| first
  | with_reducible refine' Rd.seq ?_
  | with_reducible refine' Rd.asg ?_
  | ((with_reducible refine' Rd.var ?vh ?_); (case vh => exact rfl))
  | with_reducible refine' Rd.con ?_
  | with_reducible refine' Rd.op ?_
  | with_reducible refine' Rd.i0 ?_
  | ((with_reducible refine' Rd.ic ?vh ?_); (case vh => walk_at "cnd"))
  | ((with_reducible refine' Rd.ixL ?v1 ?v2 ?v3 ?_); (case v1 => assumption); (case v2 => walk_at "mem"); (case v3 => walk_at "at"))
  | ((with_reducible refine' Rd.ixT ?v1 ?v2 ?v3 ?_); (case v1 => assumption); (case v2 => walk_at "mem"); (case v3 => walk_at "at"))
  | ((with_reducible refine' Rd.ixD2 ?v1 ?v2 ?_); (case v1 => assumption); (case v2 => walk_at "mem"); intro _)
  | ((with_reducible refine' Rd.ixD3 ?v1 ?v2 ?_); (case v1 => assumption); (case v2 => walk_at "mem"); intro _)
  | ((with_reducible refine' Rd.setD2 ?v1 ?v2 ?v3 ?v4 ?_); (case v1 => assumption); (case v2 => walk_at "mem"); (case v3 => walk_at "put"); (case v4 => walk_at "own"); intro _ _)
  | ((with_reducible refine' Rd.isi ?v1 ?v2 ?v3 ?_); (case v1 => walk_at "ty"); (case v2 => first | exact ClsV.ty _ | exact ClsV.own _); (case v3 => walk_at "kit"))
  | with_reducible refine' Rd.fld ?_
  | ((with_reducible refine' Rd.fldI ?v1 ?v2 ?v3 ?v4 ?v5 ?_); (case v1 => assumption); (case v2 => walk_at "mem"); (case v3 => assumption); (case v4 => assumption); (case v5 => walk_at "at"))
  | with_reducible refine' Rd.sfld ?_
  | ((with_reducible refine' Rd.sfldI ?v1 ?v2 ?v3 ?v4 ?v5 ?v6 ?v7 ?_); (case v1 => assumption); (case v2 => walk_at "mem"); (case v3 => assumption); (case v4 => assumption); (case v5 => first | decide | (refine Nat.lt_of_le_of_lt (putF_len _ _ _) ?_; decide)); (case v6 => walk_at "put"); (case v7 => walk_at "own"); intro _ _)
  | with_reducible refine' Rd.make ?_
  | with_reducible refine' Rd.gcd ?_
  | with_reducible refine' Rd.cons ?_
  | with_reducible refine' Rd.nil ?_
  | with_reducible refine' Rd.cb ?_
  | with_reducible refine' Rd.intI ?_
  | with_reducible refine' Rd.absI ?_
  | ((with_reducible refine' Rd.lenL ?v1 ?v2 ?_); (case v1 => assumption); (case v2 => walk_at "mem"))
  | ((with_reducible refine' Rd.lenT ?v1 ?v2 ?_); (case v1 => assumption); (case v2 => walk_at "mem"))
  | ((with_reducible refine' Rd.lenBL ?v1 ?v2 ?v3 ?_); (case v1 => assumption); (case v2 => assumption); (case v3 => first | exact List.not_mem_nil | assumption))
  | ((with_reducible refine' Rd.lenBT ?v1 ?v2 ?v3 ?_); (case v1 => assumption); (case v2 => assumption); (case v3 => first | exact List.not_mem_nil | assumption))
  | ((with_reducible refine' Rd.ixBL ?v1 ?v2 ?v4 ?v3 ?_); (case v1 => assumption); (case v2 => assumption); (case v4 => first | exact List.not_mem_nil | assumption); (case v3 => walk_at "at"))
  | ((with_reducible refine' Rd.ixBT ?v1 ?v2 ?v4 ?v3 ?_); (case v1 => assumption); (case v2 => assumption); (case v4 => first | exact List.not_mem_nil | assumption); (case v3 => walk_at "at"))
  | ((with_reducible refine' Rd.brI ?vh ?_); (case vh => with_reducible exact rfl))
  | with_reducible refine' Rd.ifS ?_
  | with_reducible refine' Rd.test ?_
  | with_reducible refine' Rd.tbl ?_
  | with_reducible refine' Rd.bl ?_
  | with_reducible refine' Rd.brTT ?_
  | with_reducible refine' Rd.brFF ?_
  | with_reducible refine' Rd.brN ?_
  | ((with_reducible refine' Rd.aug ?vh ?_); (case vh => exact rfl))
  | with_reducible refine' Rd.ipI ?_
  | with_reducible refine' Rd.blV ?_
  | with_reducible refine' Rd.notVL ?_
  | with_reducible refine' Rd.andT ?_
  | with_reducible refine' Rd.orT ?_
  | with_reducible refine' Rd.notT ?_
  | with_reducible refine' Rd.andV ?_
  | with_reducible refine' Rd.orV ?_
  | with_reducible refine' Rd.notV ?_
  | with_reducible refine' Rd.ifE ?_
  | ((with_reducible refine' Rd.eqS ?vh ?_); (case vh => exact rfl))
  | ((with_reducible refine' Rd.neS ?vh ?_); (case vh => exact rfl))
  | with_reducible refine' Rd.par ?_
  | with_reducible refine' Rd.parL ?_
  | with_reducible refine' Rd.un ?_
  | with_reducible refine' Rd.u1 ?_
  | with_reducible refine' Rd.sub ?_
  | ((with_reducible refine' Rd.setL ?v1 ?v2 ?v3 ?v4 ?v5 ?_); (case v1 => assumption); (case v2 => walk_at "mem"); (case v3 => walk_at "at"); (case v4 => walk_at "put"); (case v5 => walk_at "own"); intro _ _)
  | with_reducible refine' Rd.tup ?_
  | with_reducible refine' Rd.lst ?_
  | ((with_reducible refine' Rd.tupN ?v1 ?v2 ?_); (case v1 => assumption); (case v2 => simp only [List.length_cons, List.length_nil]; decide); intro _ _ _ _)
  | ((with_reducible refine' Rd.lstN ?v1 ?v2 ?_); (case v1 => assumption); (case v2 => simp only [List.length_cons, List.length_nil]; decide); intro _ _ _ _)
  | with_reducible refine' Rd.ret ?_
  | with_reducible refine' Rd.drop ?_
  | with_reducible refine' Rd.retN ?_
  | with_reducible refine' Rd.next ?_
  | with_reducible refine' Rd.brk ?_
  | with_reducible refine' Rd.cont ?_
  | with_reducible refine' Rd.call ?_
  | walk_at "ask"
  | with_reducible refine' Rd.bm ?_
  | ((with_reducible refine' Rd.bmL ?v1 ?v2 ?_); (case v1 => assumption); (case v2 => walk_at "mem"))
  | ((with_reducible refine' Rd.app ?v1 ?v2 ?v3 ?v4 ?v5 ?_); (case v1 => assumption); (case v2 => walk_at "mem"); (case v3 => simp only [List.length_cons, List.length_nil, List.length_append]; omega); (case v4 => walk_at "put"); (case v5 => walk_at "own"); intro _ _)
  | with_reducible refine' Rd.asgT ?_
  | ((with_reducible refine' Rd.gtup ?v1 ?v2 ?v3 ?_); (case v1 => assumption); (case v2 => walk_at "mem"); (case v3 => exact rfl))
  | with_reducible refine' Rd.gcons ?_
  | with_reducible refine' Rd.gname ?_
  | with_reducible refine' Rd.gnil ?_
  | with_reducible refine' Rd.sl ?_
  | with_reducible refine' Rd.noPart ?_
  | with_reducible refine' Rd.part ?_
  | with_reducible refine' Rd.prt ?_
  | with_reducible refine' Rd.isB ?_
  | ((with_reducible refine' Rd.wp ?vh ?_); (case vh => exact rfl))
  | with_reducible refine' Rd.makeK ?_
  | with_reducible refine' Rd.meth ?_
  | ((with_reducible refine' Rd.catL ?v1 ?v2 ?v3 ?v4 ?_); (case v1 => assumption); (case v2 => walk_at "mem"); (case v3 => walk_at "mem"); (case v4 => simp only [List.length_cons, List.length_nil, List.length_append]; omega); intro _ _ _ _)
  | with_reducible refine' Rd.dnew ?_
  | ((with_reducible refine' Rd.dnewL ?v1 ?_); (case v1 => assumption); intro _ _ _ _)
  | with_reducible refine' Rd.lc ?_
  | with_reducible refine' Rd.wZ ?_
  | with_reducible refine' Rd.tYesH ?_
  | with_reducible refine' Rd.fmt ?_
  | with_reducible refine' Rd.joined ?_
  | with_reducible refine' Rd.jsNil ?_
  | with_reducible refine' Rd.jsCons ?_
  | ((with_reducible refine' Rd.isiT ?v1 ?v2 ?v3 ?v4 ?v5 ?_); (case v1 => assumption); (case v2 => walk_at "mem"); (case v3 => walk_at "ty"); (case v4 => first | exact .cons (.ty _) (.cons (.ty _) .nil) | exact .cons (.ty _) (.cons (.ty _) (.cons (.ty _) (.cons (.ty _) .nil))) | exact .cons (.ty _) (.cons (.ty _) (.cons (.ty _) .nil))); (case v5 => walk_at "kitA"))
  | with_reducible refine' Rd.forS ?_
  | with_reducible refine' Rd.wEnT ?_
  | ((with_reducible refine' Rd.wEnTL ?v1 ?v2 ?_); (case v1 => assumption); (case v2 => walk_at "mem"))
  | with_reducible refine' Rd.wL ?_
  | ((with_reducible refine' Rd.wLL ?v1 ?v2 ?_); (case v1 => assumption); (case v2 => walk_at "mem"))
  | with_reducible refine' Rd.wT ?_
  | ((with_reducible refine' Rd.wTL ?v1 ?v2 ?_); (case v1 => assumption); (case v2 => walk_at "mem"))
  | with_reducible refine' Rd.wR1 ?_
  | ((with_reducible refine' Rd.wR1L ?v1 ?v2 ?_); (case v1 => omega); (case v2 => omega))
  | with_reducible refine' Rd.wR2 ?_
  | ((with_reducible refine' Rd.wR2L ?v1 ?_); (case v1 => omega)))
local macro_rules | `(tactic| walk_at "rd") => `(tactic| repeat (walk_at "rd1"))

local macro_rules | `(tactic| walk_at "ask") => `(tactic| ((with_reducible refine' fill_ask ?v1 ?v2 ?v3 ?v4 ?v5 ?_); (case v1 => assumption); (case v2 => walk_at "mem"); (case v3 => walk_at "mem"); (case v4 => assumption); (case v5 => walk_at "own"); intro _ _))

local macro_rules | `(tactic| walk_at "ask") => `(tactic| ((with_reducible refine' take_ask ?v1 ?v2 ?v3 ?v4 ?v5 ?v6 ?_); (case v1 => assumption); (case v2 => walk_at "mem"); (case v3 => walk_at "mem"); (case v4 => assumption); (case v5 => walk_at "own"); (case v6 => first | decide | omega); intro _ _ _ _))
local macro_rules | `(tactic| walk_at "ask") => `(tactic| ((with_reducible refine' one_ask ?v1 ?v2 ?v3 ?v4 ?v5 ?_); (case v1 => assumption); (case v2 => walk_at "subl"); (case v3 => assumption); (case v4 => walk_at "own"); (case v5 => simp only [List.length_append, List.length_cons, List.length_nil]; decide); intro _ _ _ _))
local macro_rules | `(tactic| walk_at "ask") => `(tactic| ((with_reducible refine' fig_ask ?v1 ?v2 ?v3 ?v4 ?_); (case v1 => assumption); (case v2 => walk_at "subl"); (case v3 => assumption); (case v4 => walk_at "own"); intro _ _ _ _))
local macro_rules | `(tactic| walk_at "ask") => `(tactic| ((with_reducible refine' low_ask ?v1 ?v2 ?v3 ?v4 ?_); (case v1 => assumption); (case v2 => first | assumption | omega); (case v3 => omega); (case v4 => omega); intro _ _ _ _))
local macro_rules | `(tactic| walk_at "ask") => `(tactic| ((with_reducible refine' frac_ask ?v1 ?v2 ?v3 ?v4 ?_); (case v1 => assumption); (case v2 => walk_at "subl"); (case v3 => assumption); (case v4 => walk_at "own"); intro _ _ _ _ _ _ _))

local macro_rules | `(tactic| walk_at "ask") => `(tactic| with_reducible refine' isI_int ?_)
local macro_rules | `(tactic| walk_at "ask") => `(tactic| ((with_reducible refine' mk_span ?v1 ?v2 ?v3 ?_); (case v1 => assumption); (case v2 => first | assumption | omega); (case v3 => first | assumption | omega); intro _ _ _ _))
local macro_rules | `(tactic| walk_at "ask") => `(tactic| ((with_reducible refine' mk_span1 ?v1 ?_); (case v1 => assumption); intro _ _ _ _))
local macro_rules | `(tactic| walk_at "ask") => `(tactic| ((with_reducible refine' fld_over ?v1 ?v2 ?v3 ?v4 ?_); (case v1 => assumption); (case v2 => assumption); (case v3 => assumption); (case v4 => walk_at "mem")))
local macro_rules | `(tactic| walk_at "ask") => `(tactic| ((with_reducible refine' fld_under ?v1 ?v2 ?v3 ?v4 ?_); (case v1 => assumption); (case v2 => assumption); (case v3 => assumption); (case v4 => walk_at "mem")))
local macro_rules | `(tactic| walk_at "ty") => `(tactic| exact span_ty (by assumption) (by assumption) (by walk_at "mem"))

local macro_rules | `(tactic| walk_at "ask") => `(tactic| with_reducible refine' Rd.bmS ?_)
local macro_rules | `(tactic| walk_at "ask") => `(tactic| with_reducible refine' Rd.stw ?_)
local macro_rules | `(tactic| walk_at "ask") => `(tactic| ((with_reducible refine' Rd.rmp ?v1 ?_); (case v1 => omega)))
local macro_rules | `(tactic| walk_at "ask") => `(tactic| with_reducible refine' Rd.inSg ?_)
local macro_rules | `(tactic| walk_at "ask") => `(tactic| with_reducible refine' Rd.wS ?_)
local macro_rules | `(tactic| walk_at "ask") => `(tactic| with_reducible refine' Rd.wSL ?_)

section
variable {P : Program} {w : World} {K : PySem.W.Frag} {mg : Str → Option Value} {base : Heap}
theorem joinL_cons (p q : List Nat) (r : List (List Nat)) : TL.joinL [47] (p :: q :: r) = p ++ 47 :: TL.joinL [47] (q :: r) := rfl
theorem parts47 : ∀ (n : Nat) (v : List Nat), v.length ≤ n → ∃ r rs, v = TL.joinL [47] (r :: rs) ∧ ∀ p ∈ r :: rs, 47 ∉ p
  | n, v, hl => by
    obtain ⟨h, u, e, f⟩ := first47 v
    cases u with
    | none =>
      refine ⟨h, [], by rw [e]; exact List.append_nil h, fun p hp => ?_⟩
      rw [List.mem_singleton.mp hp]
      exact f
    | some w =>
      have hw : w.length < v.length := by
        rw [e, List.length_append]
        show w.length < h.length + (w.length + 1)
        omega
      match n, hl with
      | 0, hl => omega
      | n + 1, hl =>
        obtain ⟨r, rs, e2, f2⟩ := parts47 n w (by omega)
        refine ⟨h, r :: rs, ?_, fun p hp => ?_⟩
        · rw [joinL_cons, ← e2]
          exact e
        · rcases List.mem_cons.mp hp with z | z
          · rw [z]
            exact f
          · exact f2 p z
theorem sgn_free {neg : Bool} {h : List Nat} (f : 47 ∉ h) : 47 ∉ sgn neg ++ h := by
  intro m
  rcases List.mem_append.mp m with z | z
  · cases neg with
    | true => simp [sgn] at z
    | false => simp [sgn] at z
  · exact f z
theorem take1 {neg : Bool} {h r : List Nat} (p : neg = false → (h ++ r).head? ≠ some 45) : decide (TS ((sgn neg ++ (h ++ r)).take (Int.toNat 1)) = TS [45]) = neg := by
  cases neg with
  | true => exact decide_eq_true rfl
  | false =>
    refine decide_eq_false fun e => ?_
    have z := strS_eq.mp e
    have p := p rfl
    show False
    have z2 : (h ++ r).take 1 = [45] := z
    cases q : h ++ r with
    | nil => rw [q] at z2; cases z2
    | cons c l =>
      rw [q] at z2 p
      have : c = 45 := by simpa using z2
      exact p (by simp [this])
theorem cut_pos {t : List Nat} {neg : Bool} {h : List Nat} {u : Option (List Nat)} (c : Cut t neg h u) : neg = false → (h ++ tlU u).head? ≠ some 45 := fun e => by
  cases h with
  | nil =>
    cases u with
    | none => simp [tlU]
    | some v => simp [tlU]
  | cons a r => exact c.pos e
theorem cutVt (a : V) (l : List V) : cutV (a :: l) (some 1) none = l := by simp [cutV, HT.sIx]
theorem inV01 (v : List Nat) : inV (TS v) [TS [48], TS [49]] = (decide (v = [48]) || decide (v = [49])) := by
  show ((SX.S [48] == SX.S v) || ((SX.S [49] == SX.S v) || false)) = _
  rw [SX.S_beq_eq, SX.S_beq_eq, Bool.or_false, Bool.eq_iff_iff]
  simp only [Bool.or_eq_true, decide_eq_true_iff]
  exact ⟨fun h => h.imp Eq.symm Eq.symm, fun h => h.imp Eq.symm Eq.symm⟩
theorem takeL {α β : Type} {f : α → β} {a : List α} {i : Nat} {c : α} (h : a[i]? = some c) : (a.take (i + 1)).map f = (a.take i).map f ++ [f c] := by
  rw [List.take_add_one, h, List.map_append]
  rfl
theorem eqv_pair2 {a b x y : Int} : PyData.eqv (.tuple [.int a, .int b]) (.tuple [.int x, .int y]) = decide (a = x ∧ b = y) := by
  simp only [PyData.eqv, PyData.eqvAll, Bool.and_true]
  rw [Bool.eq_iff_iff]
  simp
theorem low_same {a b : Nat} (hb : 0 < b) : decide ((a : Int) / (Int.gcd (a : Int) (b : Int) : Int) = (a : Int) ∧ (b : Int) / (Int.gcd (a : Int) (b : Int) : Int) = (b : Int)) = decide (Nat.gcd a b = 1) := by
  have e : Int.gcd (a : Int) (b : Int) = Nat.gcd a b := rfl
  rw [e]
  by_cases g : Nat.gcd a b = 1
  · rw [decide_eq_true g]
    refine decide_eq_true ?_
    rw [g]
    simp
  · rw [decide_eq_false g]
    refine decide_eq_false fun z => ?_
    have g0 : 0 < Nat.gcd a b := Nat.gcd_pos_of_pos_right _ hb
    have e3 : b / Nat.gcd a b = b := by exact_mod_cast z.2
    have e4 : b / Nat.gcd a b < b := Nat.div_lt_self hb (by omega)
    omega
/-- the law's own look at a text -/
def spIsT : Sp := fun vs H Q _ => ∃ (t : List Nat) (neg : Bool) (h : List Nat) (u : Option (List Nat)), vs = [TS t] ∧ Cut t neg h u ∧ t.length ≤ 90 ∧ ∀ H', Kp [] H H' → Q (.bl (okT neg h u)) H'
theorem ok_l_is_text (T : Txt K mg) : FnOk P w K mg base CX0 2 (He.fAd K ("_law_is_text", none)) T.fd_l_is_text ["_law_text_here"] spIsT := by
  refine T.F_l_is_text.ok sc_l_is_text (fun vs H Q E h => ?_) (fun cdv A outer s H vs Q E hr h => ?_)
  · obtain ⟨t, neg, h, u, rfl, _⟩ := h
    rfl
  · obtain ⟨t, neg, h, u, rfl, hc, hl, k⟩ := h
    refine ⟨_, PSs.nox (pss_cons (ps_asg (pe_bm PySem.F.plainAttrs_str PySem.F.slot_str_split PySem.F.type_str_split mt_splitQ (pv 0) (pa_cons (Lt.pe_strL (l := [47]) (by decide +kernel)) pa_nil)) (pg_name (i := 1) sc_l_is_text.nd rfl (by first | exact Or.inl rfl | exact Or.inr rfl)))
  (C8.pss_cut (ps_asg (pe_ifExp (pt_cmpR op_eq (pe_slice C8.sl_txt (pe_ix ix_list (pv 1) pe_int (fun _ _ => rfl)) po_none (po_some pe_int)) (Lt.pe_strL (l := [45]) (by decide +kernel)) (nomark _)) (pe_slice C8.sl_txt (pe_ix ix_list (pv 1) pe_int (fun _ _ => rfl)) (po_some pe_int) po_none) (pe_ix ix_list (pv 1) pe_int (fun _ _ => rfl))) (pg_name (i := 2) sc_l_is_text.nd rfl (by first | exact Or.inl rfl | exact Or.inr rfl)))
  (pss_cons (ps_if (PW.pt (pw_or (pt_cmpR op_gt (pe_callB call_lenQ (by rfl) T.n_len PySem.boot_len (pa_cons (pv 1) pa_nil)) pe_int (nomark _)) (pw_or1 (pt_not (pt_val (pe_callB (cr_all rfl) (by rfl) T.n_all (by decide +kernel) (pa_cons (pe_lc (own := [("_law_x", 3)]) (g := gName 3) (tt := tYes) (by rfl) sc_l_is_text.nd (pi_list (pe_op op_cat (pe_lst (pa_cons (pv 2) pa_nil)) (pe_slice sl_list (pv 1) (po_some pe_int) po_none))) (blkOk_by (own := [("_law_x", 3)]) (N := ["_law_text_here", "_law_parts", "_law_head", "_law_x"]) (sc := defScope s_l_is_text) (by decide +kernel)) (fun _ _ _ _ _ => (pg_name (i := 3) sc_l_is_text.nd rfl (by first | exact Or.inl rfl | exact Or.inr rfl))) (fun _ _ _ _ _ => pts_nil) (fun _ _ _ _ _ => (pe_call (ok_l_is_figures T) (hr.mono (by decide)) rfl T.g_l_is_figures T.F_l_is_figures.kp T.b_l_is_figures .nil pass0 (pa_cons (pv 3) pa_nil)))) pa_nil))))))) (pss_one (ps_ret pe_bl))
   pss_nil)
  (pss_cons (ps_if (PW.pt (pw_or (PW.pt (pw_and (pt_cmpR op_eq (pe_slice C8.sl_txt (pv 0) po_none (po_some pe_int)) (Lt.pe_strL (l := [45]) (by decide +kernel)) (nomark _)) (pw_and1 (pt_cmpR op_eq (pv 2) (Lt.pe_strL (l := [48]) (by decide +kernel)) (nomark _))))) (pw_or1 (PW.pt (pw_and (pt_cmpR op_eq (pe_callB call_lenQ (by rfl) T.n_len PySem.boot_len (pa_cons (pv 1) pa_nil)) pe_int (nomark _)) (pw_and1 (pt_cmpR op_in_seq (pe_ix ix_list (pv 1) pe_int (fun _ _ => rfl)) (pe_tup (pa_cons (Lt.pe_strL (l := [48]) (by decide +kernel)) (pa_cons (Lt.pe_strL (l := [49]) (by decide +kernel)) pa_nil))) (by rfl)))))))) (pss_one (ps_ret pe_bl))
   pss_nil)
  (pss_one (ps_ret (pe_or (pe_cmpR op_eq (pe_callB call_lenQ (by rfl) T.n_len PySem.boot_len (pa_cons (pv 1) pa_nil)) pe_int (nomark _)) (pe_one (pe_cmpR (op_eqD hr.units) (pe_call (ok_l_low T) (hr.mono (by decide)) rfl T.g_l_low T.F_l_low.kp T.b_l_low .nil pass0 (pa_cons (pe_callTy call_intS (by rfl) T.n_int (by decide +kernel) (pa_cons (pv 2) pa_nil)) (pa_cons (pe_callTy call_intS (by rfl) T.n_int (by decide +kernel) (pa_cons (pe_ix ix_list (pv 1) pe_int (fun _ _ => rfl)) pa_nil)) pa_nil))) (pe_tup (pa_cons (pe_callTy call_intS (by rfl) T.n_int (by decide +kernel) (pa_cons (pv 2) pa_nil)) (pa_cons (pe_callTy call_intS (by rfl) T.n_int (by decide +kernel) (pa_cons (pe_ix ix_list (pv 1) pe_int (fun _ _ => rfl)) pa_nil)) pa_nil))) (nomark _)))))))))), ?_⟩
    walk_at "k"
    have s0 : Stt H [] [] H := Stt.nil
    obtain ⟨rest, ejoin, hfree, hrest⟩ : ∃ rest, t = TL.joinL [47] ((sgn neg ++ h) :: rest) ∧ (∀ p ∈ (sgn neg ++ h) :: rest, 47 ∉ p) ∧ ((u = none ∧ rest = []) ∨ (∃ v, u = some v ∧ rest = [v]) ∨ ((∃ v, u = some v ∧ figs v = false) ∧ ∃ a b r, rest = a :: b :: r)) := by
      cases u with
      | none =>
        refine ⟨[], ?_, fun p hp => ?_, .inl ⟨rfl, rfl⟩⟩
        · rw [hc.eq]
          show _ = sgn neg ++ h
          rw [show tlU none = [] from rfl, List.append_nil]
        · rw [List.mem_singleton.mp hp]
          exact sgn_free hc.free
      | some v =>
        obtain ⟨r, rs, e2, f2⟩ := parts47 v.length v (Nat.le_refl _)
        refine ⟨r :: rs, ?_, fun p hp => ?_, ?_⟩
        · rw [joinL_cons, ← e2, hc.eq, List.append_assoc]
          rfl
        · rcases List.mem_cons.mp hp with z | z
          · rw [z]
            exact sgn_free hc.free
          · exact f2 p z
        · cases rs with
          | nil => exact .inr (.inl ⟨v, rfl, by rw [e2]; rfl⟩)
          | cons b r2 =>
            refine .inr (.inr ⟨⟨v, rfl, ?_⟩, r, b, r2, rfl⟩)
            cases f : figs v with
            | false => rfl
            | true =>
              exfalso
              refine figs_free f (s := 47) (.inl (by decide)) ?_
              rw [e2, joinL_cons]
              simp
    have hlen := cut_len hc
    have hlh : h.length ≤ 90 := by rw [List.length_append] at hlen; omega
    have hls : (sgn neg ++ h).length ≤ 91 := by
      rw [List.length_append]
      cases neg <;> simp [sgn] <;> omega
    have t1 := take1 (neg := neg) (h := h) (r := tlU u) (cut_pos hc)
    rw [← hc.eq] at t1
    have t2 : decide (TS ((sgn neg ++ h).take (Int.toNat 1)) = TS [45]) = neg := by
      have z := take1 (neg := neg) (h := h) (r := []) (by rw [List.append_nil]; exact hc.pos)
      rw [List.append_nil] at z
      exact z
    have d1 : neg = true → (sgn neg ++ h).drop (Int.toNat 1) = h := fun e => by rw [e]; rfl
    have d2 : neg = false → sgn neg ++ h = h := fun e => by rw [e]; rfl
    walk_at "rd"
    refine Rd.splt ejoin (by simp) hfree (by omega) s0 fun p H1 hp s1 => ?_
    rw [List.map_cons] at s1
    walk_at "rd"
    refine Rd.cut (fun σ' H' => σ' = [some (TS t), some (.ref p), some (TS h), none] ∧ Stt H [] [(p, Is (.lst (TS (sgn neg ++ h) :: rest.map TS)))] H') ?_ ?_
    · have a0 : atI (TS (sgn neg ++ h) :: rest.map TS) 0 = some (TS (sgn neg ++ h)) := atI_nat (j := 0) rfl
      walk_at "rd"
      refine Rd.slTo (by omega) (by decide) ?_
      walk_at "rd"
      rw [t2]
      refine Rd.br (fun n1 => ?_) (fun n1 => ?_)
      · walk_at "rd"
        refine Rd.slFrom (by omega) (by decide) ?_
        rw [d1 n1]
        walk_at "rd"
        exact ⟨rfl, s1⟩
      · walk_at "rd"
        refine ⟨?_, s1⟩
        show [some (TS t), some (V.ref p), some (TS (sgn neg ++ h)), none] = _
        rw [d2 n1]
    · rintro σ' H2 ⟨rfl, s2⟩
      clear s1
      have third : ∀ a b (r : List (List Nat)), rest = a :: b :: r → (∃ v, u = some v ∧ figs v = false) → okT neg h u = false := fun a b r _ ⟨v, e1, e2⟩ => by
        rw [e1]
        show (figs h && !(neg && decide (h = [48])) && (figs v && decide (v ≠ [48]) && decide (v ≠ [49]) && decide (Nat.gcd (NumText.digitsVal h) (NumText.digitsVal v) = 1))) = false
        rw [e2]
        simp
      by_cases hr1 : 2 < rest.length + 1
      · have ok : okT neg h u = false := by
          rcases hrest with ⟨_, e⟩ | ⟨v, _, e⟩ | ⟨q, a, b, r, e⟩
          · rw [e] at hr1; simp at hr1
          · rw [e] at hr1; simp at hr1
          · exact third a b r e q
        walk_at "rd"
        refine Rd.brI (by simp only [List.length_cons, List.length_map]; omega) ?_
        walk_at "rd"
        have z := k _ s2.keep
        rw [ok] at z
        exact z
      · have hrest2 : (u = none ∧ rest = []) ∨ (∃ v, u = some v ∧ rest = [v]) := by
          rcases hrest with q | q | ⟨q, a, b, r, e⟩
          · exact .inl q
          · exact .inr q
          · rw [e] at hr1; simp at hr1
        clear hrest
        have hbs : ∀ a ∈ h :: rest, a.length ≤ 90 := by
          rw [List.length_append] at hlen
          rcases hrest2 with ⟨e1, e⟩ | ⟨v, e1, e⟩
          · rw [e]
            intro a ha
            rw [List.mem_singleton.mp ha]
            exact hlh
          · rw [e]
            rw [e1] at hlen
            have : (tlU (some v)).length = v.length + 1 := rfl
            intro a ha
            rcases List.mem_cons.mp ha with z | z
            · rw [z]; exact hlh
            · rw [List.mem_singleton.mp z]; omega
        walk_at "rd"
        refine Rd.brJ (by simp only [List.length_cons, List.length_map]; omega) ?_
        walk_at "rd"
        rename_i q1 H3 hq1 s3
        refine ⟨p, _, rfl, s3.sqL (by walk_at "mem"), fun q hq => ?_⟩
        rw [cutVt]
        have s4 := s3.new hq (.lst (rest.map TS))
        generalize upd H3 q (HO.lst (rest.map TS)) = H4 at s4 ⊢
        walk_at "rd"
        refine Rd.catL s4 (by walk_at "mem") (by walk_at "mem") (by simp; omega) fun r H5 hr5 s5 => ?_
        walk_at "rd"
        have s0' : Stt H5 [] [] H5 := Stt.nil
        have hp5 : SqL K H5 p (TS (sgn neg ++ h) :: rest.map TS) := s5.sqL (by walk_at "mem")
        refine Rd.lcG (walk_list (xs := [TS h] ++ rest.map TS)) s0' (fun i acc ex => ex = [] ∧ acc = ((h :: rest).take i).map fun a => V.bl (figs a)) ⟨rfl, rfl⟩ (fun H' D acc ex _ z => z.upL (s5.sqL (by walk_at "mem"))) ?_ ?_
        · rintro D hD i x HA HB acc ex hi ⟨rfl, rfl⟩ hac s22 ⟨rfl, e2⟩
          obtain ⟨a, ea, rfl⟩ : ∃ a, (h :: rest)[i]? = some a ∧ x = TS a := by
            have e3 : ((h :: rest).map TS)[i]? = some x := e2
            rw [List.getElem?_map] at e3
            cases e4 : (h :: rest)[i]? with
            | none => rw [e4] at e3; cases e3
            | some a => rw [e4] at e3; cases e3; exact ⟨a, rfl, rfl⟩
          have la := hbs a (List.mem_of_getElem? ea)
          walk_at "rd"
          refine figs_ask s22 (by omega) fun H7 s7 => ?_
          exact Rd.lcE s7 hD (by have : i < ([TS h] ++ rest.map TS).length := hi; simp at this; omega) hac ⟨rfl, (takeL (f := fun a => V.bl (figs a)) ea).symm⟩
        · rintro D HA acc ex hD ⟨rfl, rfl⟩ s22
          have el : (([TS h] ++ rest.map TS).length) = (h :: rest).length := by simp
          rw [el, List.take_length, show ((h :: rest).map fun a => V.bl (figs a)) = ((h :: rest).map figs).map V.bl by rw [List.map_map]; rfl] at s22
          have kp : ∀ {l : Led} {H' : Hp}, Stt H5 [] l H' → Kp [] H H' := fun z => s5.keep.trans z.keep (fun _ m => nomatch m)
          walk_at "rd"
          refine Rd.allL s22 (by walk_at "mem") ?_
          have ea : ((h :: rest).map figs).all id = (figs h && rest.all figs) := by simp [List.all_map]
          rw [ea]
          walk_at "rd"
          rcases hrest2 with ⟨rfl, rfl⟩ | ⟨v, rfl, rfl⟩
          · rw [show (figs h && ([] : List (List Nat)).all figs) = figs h by simp]
            have ok : okT neg h none = (figs h && !(neg && decide (h = [48]))) := by
              unfold okT
              rw [show okU none h = true from rfl, Bool.and_true]
            refine Rd.br (fun f1 => ?_) (fun f1 => ?_)
            · rw [f1, Bool.true_and] at ok
              have last : ∀ {H' : Hp} {l : Led}, Stt H5 [] l H' → (neg && decide (h = [48])) = false → Q (.bl true) H' := fun z e => by
                have y := k _ (kp z)
                rw [ok, e] at y
                exact y
              walk_at "rd"
              refine Rd.slTo (by omega) (by decide) ?_
              walk_at "rd"
              rw [t1]
              refine Rd.br (fun n1 => ?_) (fun n1 => ?_)
              · walk_at "rd"
                refine Rd.brD (fun e => ?_) (fun e => ?_)
                · walk_at "rd"
                  have y := k _ (kp s22)
                  rw [ok, n1, decide_eq_true (strS_eq.mp e)] at y
                  exact y
                · walk_at "rd"
                  refine Rd.brJ (by intro z; have z := V.int.inj z; simp at z) ?_
                  walk_at "rd"
                  refine Rd.brI (congrArg V.int (by simp)) ?_
                  walk_at "rd"
                  exact last s22 (by rw [n1, decide_eq_false (fun z => e (strS_eq.mpr z))]; rfl)
              · walk_at "rd"
                refine Rd.brJ (by intro z; have z := V.int.inj z; simp at z) ?_
                walk_at "rd"
                refine Rd.brI (congrArg V.int (by simp)) ?_
                walk_at "rd"
                exact last s22 (by rw [n1]; rfl)
            · walk_at "rd"
              have y := k _ (kp s22)
              rw [ok, f1] at y
              exact y
          · rw [show (figs h && [v].all figs) = (figs h && figs v) by simp]
            have ok : okT neg h (some v) = ((figs h && figs v) && (!(neg && decide (h = [48])) && (!(decide (v = [48]) || decide (v = [49])) && decide (Nat.gcd (NumText.digitsVal h) (NumText.digitsVal v) = 1)))) := by
              show (figs h && !(neg && decide (h = [48])) && (figs v && decide (v ≠ [48]) && decide (v ≠ [49]) && decide (Nat.gcd (NumText.digitsVal h) (NumText.digitsVal v) = 1))) = _
              rw [Bool.eq_iff_iff]
              simp only [Bool.and_eq_true, Bool.not_eq_true', Bool.or_eq_false_iff, decide_eq_true_iff, decide_eq_false_iff_not]
              exact ⟨fun ⟨⟨a, b⟩, ⟨⟨c, d⟩, e⟩, f⟩ => ⟨⟨a, c⟩, b, ⟨d, e⟩, f⟩, fun ⟨⟨a, c⟩, b, ⟨d, e⟩, f⟩ => ⟨⟨a, b⟩, ⟨⟨c, d⟩, e⟩, f⟩⟩
            refine Rd.br (fun f1 => ?_) (fun f1 => ?_)
            · rw [f1, Bool.true_and] at ok
              obtain ⟨fh, fv⟩ := Bool.and_eq_true_iff.mp f1
              have lv := hbs v (by simp)
              have a1 : atI (TS (sgn neg ++ h) :: [v].map TS) 1 = some (TS v) := atI_nat (j := 1) rfl
              have bh := dv_bound fh hlh
              have bv := dv_bound fv lv
              walk_at "rd"
              refine Rd.slTo (by omega) (by decide) ?_
              walk_at "rd"
              rw [t1]
              have nx : ∀ {H' : Hp} {l : Led}, Stt H5 [] l H' → (neg && decide (h = [48])) = false → okT neg h (some v) = (!(decide (v = [48]) || decide (v = [49])) && decide (Nat.gcd (NumText.digitsVal h) (NumText.digitsVal v) = 1)) := fun _ e => by
                rw [ok, e]
                rfl
              have fin : ∀ {H' : Hp} {l : Led} {b : Bool}, Stt H5 [] l H' → okT neg h (some v) = b → Q (.bl b) H' := fun z e => by
                have y := k _ (kp z)
                rw [e] at y
                exact y
              have hz : v ≠ [48] → 0 < NumText.digitsVal v := fun q => Nat.pos_of_ne_zero fun z => q ((figs_zero fv).mp z)
              refine Rd.br (fun n1 => ?_) (fun n1 => ?_)
              · walk_at "rd"
                refine Rd.brD (fun e => ?_) (fun e => ?_)
                · walk_at "rd"
                  refine fin s22 ?_
                  rw [ok, n1, decide_eq_true (strS_eq.mp e)]
                  rfl
                · have en : (neg && decide (h = [48])) = false := by rw [n1, decide_eq_false (fun z => e (strS_eq.mpr z))]; rfl
                  walk_at "rd"
                  refine Rd.brI (congrArg V.int (by simp)) ?_
                  walk_at "rd"
                  rename_i tp H7 htp s7
                  refine Rd.inT s7 (by walk_at "mem") rfl rfl ?_
                  rw [inV01]
                  walk_at "rd"
                  refine Rd.br (fun e3 => ?_) (fun e3 => ?_)
                  · walk_at "rd"
                    refine fin s7 ?_
                    rw [nx s7 en, e3]
                    rfl
                  · walk_at "rd"
                    refine Rd.brJ (by intro z; have z := V.int.inj z; simp at z) ?_
                    walk_at "rd"
                    have hv := hz (by simp only [Bool.or_eq_false_iff, decide_eq_false_iff_not] at e3; exact e3.1)
                    refine Rd.intS (figs_dig fh) (figs_ne fh) (by omega) ?_
                    walk_at "rd"
                    refine Rd.intS (figs_dig fv) (figs_ne fv) (by omega) ?_
                    walk_at "rd"
                    refine Rd.intS (figs_dig fh) (figs_ne fh) (by omega) ?_
                    walk_at "rd"
                    refine Rd.intS (figs_dig fv) (figs_ne fv) (by omega) ?_
                    walk_at "rd"
                    rename_i p9 H9 hp9 s9
                    refine Rd.eqD (.tup (s9.sqT (by walk_at "mem")) (.cons (.int _) (.cons (.int _) .nil))) (.tup (s9.sqT (by walk_at "mem")) (.cons (.int _) (.cons (.int _) .nil))) rfl rfl ?_
                    rw [eqv_pair2, low_same hv]
                    refine fin s9 ?_
                    rw [nx s9 en, e3]
                    rfl
              · have en : (neg && decide (h = [48])) = false := by rw [n1]; rfl
                walk_at "rd"
                refine Rd.brI (congrArg V.int (by simp)) ?_
                walk_at "rd"
                rename_i tp H7 htp s7
                refine Rd.inT s7 (by walk_at "mem") rfl rfl ?_
                rw [inV01]
                walk_at "rd"
                refine Rd.br (fun e3 => ?_) (fun e3 => ?_)
                · walk_at "rd"
                  refine fin s7 ?_
                  rw [nx s7 en, e3]
                  rfl
                · walk_at "rd"
                  refine Rd.brJ (by intro z; have z := V.int.inj z; simp at z) ?_
                  walk_at "rd"
                  have hv := hz (by simp only [Bool.or_eq_false_iff, decide_eq_false_iff_not] at e3; exact e3.1)
                  refine Rd.intS (figs_dig fh) (figs_ne fh) (by omega) ?_
                  walk_at "rd"
                  refine Rd.intS (figs_dig fv) (figs_ne fv) (by omega) ?_
                  walk_at "rd"
                  refine Rd.intS (figs_dig fh) (figs_ne fh) (by omega) ?_
                  walk_at "rd"
                  refine Rd.intS (figs_dig fv) (figs_ne fv) (by omega) ?_
                  walk_at "rd"
                  rename_i p9 H9 hp9 s9
                  refine Rd.eqD (.tup (s9.sqT (by walk_at "mem")) (.cons (.int _) (.cons (.int _) .nil))) (.tup (s9.sqT (by walk_at "mem")) (.cons (.int _) (.cons (.int _) .nil))) rfl rfl ?_
                  rw [eqv_pair2, low_same hv]
                  refine fin s9 ?_
                  rw [nx s9 en, e3]
                  rfl
            · walk_at "rd"
              have y := k _ (kp s22)
              rw [ok, f1] at y
              exact y
end

end
section
local macro_rules | `(tactic| walk_at "subl") => `(tactic| first | with_reducible exact List.nil_sublist _ | with_reducible exact List.Sublist.refl _ | (with_reducible refine List.Sublist.cons₂ _ ?_; walk_at "subl") | (with_reducible refine List.Sublist.cons _ ?_; walk_at "subl"))
local macro_rules | `(tactic| walk_at "k") => `(tactic| try dsimp only [L2.cxOf, L2.Cx.nox, L2.Cx.wish, L2.Cx.blk])
local macro_rules | `(tactic| walk_at "ask") => `(tactic| fail)
local macro_rules | `(tactic| walk_at "mem") => `(tactic| first | with_reducible exact List.mem_cons_self | (with_reducible apply List.mem_cons_of_mem; walk_at "mem"))
local macro_rules | `(tactic| walk_at "put") => `(tactic| first | with_reducible exact Lt.Put.head | (with_reducible apply Lt.Put.tail; walk_at "put"))
local macro_rules | `(tactic| walk_at "own") => `(tactic| first | exact Or.inr (by assumption) | exact Or.inl (by walk_at "mem"))
local macro_rules | `(tactic| walk_at "cnd") => `(tactic| first | assumption | decide | ((try dsimp only); omega) | (unfold CMul; omega) | (unfold CDiv; omega) | (unfold CPow; omega) | exact Or.inr (by decide) | exact Or.inl (by decide) | exact wide_div (b := 128) (by omega) (by omega) (by decide) (by decide))
local macro_rules | `(tactic| walk_at "at") => `(tactic| first | exact rfl | assumption)
local macro_rules | `(tactic| walk_at "kit") => `(tactic| first | assumption | exact kit_int_int | exact kit_int_bool | exact kit_int_str | exact kit_int_list | exact kit_int_tuple | exact kit_int_dict | exact kit_bool_int | exact kit_bool_bool | exact kit_bool_str | exact kit_bool_list | exact kit_bool_tuple | exact kit_bool_dict | exact kit_str_int | exact kit_str_bool | exact kit_str_str | exact kit_str_list | exact kit_str_tuple | exact kit_str_dict | exact kit_list_int | exact kit_list_bool | exact kit_list_str | exact kit_list_list | exact kit_list_tuple | exact kit_list_dict | exact kit_tuple_int | exact kit_tuple_bool | exact kit_tuple_str | exact kit_tuple_list | exact kit_tuple_tuple | exact kit_tuple_dict | exact kit_dict_int | exact kit_dict_bool | exact kit_dict_str | exact kit_dict_list | exact kit_dict_tuple | exact kit_dict_dict | exact kit_NoneType_int | exact kit_NoneType_bool | exact kit_NoneType_str | exact kit_NoneType_list | exact kit_NoneType_tuple | exact kit_NoneType_dict)
local macro_rules | `(tactic| walk_at "kitA") => `(tactic| first | assumption | exact kitA_lt_int | exact kitA_lt_bool | exact kitA_lt_str | exact kitA_lt_list | exact kitA_lt_tuple | exact kitA_lt_dict | exact kitA_lt_NoneType | exact kitA_bilt_int | exact kitA_bilt_bool | exact kitA_bilt_str | exact kitA_bilt_list | exact kitA_bilt_tuple | exact kitA_bilt_dict | exact kitA_bilt_NoneType)
local macro_rules | `(tactic| walk_at "ty") => `(tactic| first | exact .base (.int _) | exact .base (.bl _) | exact .base (.str _) | exact .base .non | exact .base (.lst (Stt.get (by assumption) (by walk_at "mem"))) | exact .base (.tup (Stt.get (by assumption) (by walk_at "mem"))) | exact .base (.dK (Stt.get (by assumption) (by walk_at "mem"))) | exact sqL_ty (Stt.upL (by assumption) (by assumption)) | exact sqT_ty (Stt.upT (by assumption) (by assumption)) | exact InsT.ty (by assumption) (Stt.get (by assumption) (by walk_at "mem")) | assumption)
local macro_rules | `(tactic| walk_at "rd1") => `(tactic| first
  | with_reducible refine' Rd.seq ?_
  | with_reducible refine' Rd.asg ?_
  | ((with_reducible refine' Rd.var ?vh ?_); (case vh => exact rfl))
  | with_reducible refine' Rd.con ?_
  | with_reducible refine' Rd.op ?_
  | with_reducible refine' Rd.i0 ?_
  | ((with_reducible refine' Rd.ic ?vh ?_); (case vh => walk_at "cnd"))
  | ((with_reducible refine' Rd.ixL ?v1 ?v2 ?v3 ?_); (case v1 => assumption); (case v2 => walk_at "mem"); (case v3 => walk_at "at"))
  | ((with_reducible refine' Rd.ixT ?v1 ?v2 ?v3 ?_); (case v1 => assumption); (case v2 => walk_at "mem"); (case v3 => walk_at "at"))
  | ((with_reducible refine' Rd.ixD2 ?v1 ?v2 ?_); (case v1 => assumption); (case v2 => walk_at "mem"); intro _)
  | ((with_reducible refine' Rd.ixD3 ?v1 ?v2 ?_); (case v1 => assumption); (case v2 => walk_at "mem"); intro _)
  | ((with_reducible refine' Rd.setD2 ?v1 ?v2 ?v3 ?v4 ?_); (case v1 => assumption); (case v2 => walk_at "mem"); (case v3 => walk_at "put"); (case v4 => walk_at "own"); intro _ _)
  | ((with_reducible refine' Rd.isi ?v1 ?v2 ?v3 ?_); (case v1 => walk_at "ty"); (case v2 => first | exact ClsV.ty _ | exact ClsV.own _); (case v3 => walk_at "kit"))
  | with_reducible refine' Rd.fld ?_
  | ((with_reducible refine' Rd.fldI ?v1 ?v2 ?v3 ?v4 ?v5 ?_); (case v1 => assumption); (case v2 => walk_at "mem"); (case v3 => assumption); (case v4 => assumption); (case v5 => walk_at "at"))
  | with_reducible refine' Rd.sfld ?_
  | ((with_reducible refine' Rd.sfldI ?v1 ?v2 ?v3 ?v4 ?v5 ?v6 ?v7 ?_); (case v1 => assumption); (case v2 => walk_at "mem"); (case v3 => assumption); (case v4 => assumption); (case v5 => first | decide | (refine Nat.lt_of_le_of_lt (putF_len _ _ _) ?_; decide)); (case v6 => walk_at "put"); (case v7 => walk_at "own"); intro _ _)
  | with_reducible refine' Rd.make ?_
  | with_reducible refine' Rd.gcd ?_
  | with_reducible refine' Rd.cons ?_
  | with_reducible refine' Rd.nil ?_
  | with_reducible refine' Rd.cb ?_
  | with_reducible refine' Rd.intI ?_
  | with_reducible refine' Rd.absI ?_
  | ((with_reducible refine' Rd.lenL ?v1 ?v2 ?_); (case v1 => assumption); (case v2 => walk_at "mem"))
  | ((with_reducible refine' Rd.lenT ?v1 ?v2 ?_); (case v1 => assumption); (case v2 => walk_at "mem"))
  | ((with_reducible refine' Rd.lenBL ?v1 ?v2 ?v3 ?_); (case v1 => assumption); (case v2 => assumption); (case v3 => first | exact List.not_mem_nil | assumption))
  | ((with_reducible refine' Rd.lenBT ?v1 ?v2 ?v3 ?_); (case v1 => assumption); (case v2 => assumption); (case v3 => first | exact List.not_mem_nil | assumption))
  | ((with_reducible refine' Rd.ixBL ?v1 ?v2 ?v4 ?v3 ?_); (case v1 => assumption); (case v2 => assumption); (case v4 => first | exact List.not_mem_nil | assumption); (case v3 => walk_at "at"))
  | ((with_reducible refine' Rd.ixBT ?v1 ?v2 ?v4 ?v3 ?_); (case v1 => assumption); (case v2 => assumption); (case v4 => first | exact List.not_mem_nil | assumption); (case v3 => walk_at "at"))
  | ((with_reducible refine' Rd.brI ?vh ?_); (case vh => with_reducible exact rfl))
  | with_reducible refine' Rd.ifS ?_
  | with_reducible refine' Rd.test ?_
  | with_reducible refine' Rd.tbl ?_
  | with_reducible refine' Rd.bl ?_
  | with_reducible refine' Rd.brTT ?_
  | with_reducible refine' Rd.brFF ?_
  | with_reducible refine' Rd.brN ?_
  | ((with_reducible refine' Rd.aug ?vh ?_); (case vh => exact rfl))
  | with_reducible refine' Rd.ipI ?_
  | with_reducible refine' Rd.blV ?_
  | with_reducible refine' Rd.notVL ?_
  | with_reducible refine' Rd.andT ?_
  | with_reducible refine' Rd.orT ?_
  | with_reducible refine' Rd.notT ?_
  | with_reducible refine' Rd.andV ?_
  | with_reducible refine' Rd.orV ?_
  | with_reducible refine' Rd.notV ?_
  | with_reducible refine' Rd.ifE ?_
  | ((with_reducible refine' Rd.eqS ?vh ?_); (case vh => exact rfl))
  | ((with_reducible refine' Rd.neS ?vh ?_); (case vh => exact rfl))
  | with_reducible refine' Rd.par ?_
  | with_reducible refine' Rd.parL ?_
  | with_reducible refine' Rd.un ?_
  | with_reducible refine' Rd.u1 ?_
  | with_reducible refine' Rd.sub ?_
  | ((with_reducible refine' Rd.setL ?v1 ?v2 ?v3 ?v4 ?v5 ?_); (case v1 => assumption); (case v2 => walk_at "mem"); (case v3 => walk_at "at"); (case v4 => walk_at "put"); (case v5 => walk_at "own"); intro _ _)
  | with_reducible refine' Rd.tup ?_
  | with_reducible refine' Rd.lst ?_
  | ((with_reducible refine' Rd.tupN ?v1 ?v2 ?_); (case v1 => assumption); (case v2 => simp only [List.length_cons, List.length_nil]; decide); intro _ _ _ _)
  | ((with_reducible refine' Rd.lstN ?v1 ?v2 ?_); (case v1 => assumption); (case v2 => simp only [List.length_cons, List.length_nil]; decide); intro _ _ _ _)
  | with_reducible refine' Rd.ret ?_
  | with_reducible refine' Rd.drop ?_
  | with_reducible refine' Rd.retN ?_
  | with_reducible refine' Rd.next ?_
  | with_reducible refine' Rd.brk ?_
  | with_reducible refine' Rd.cont ?_
  | with_reducible refine' Rd.call ?_
  | walk_at "ask"
  | with_reducible refine' Rd.bm ?_
  | ((with_reducible refine' Rd.bmL ?v1 ?v2 ?_); (case v1 => assumption); (case v2 => walk_at "mem"))
  | ((with_reducible refine' Rd.app ?v1 ?v2 ?v3 ?v4 ?v5 ?_); (case v1 => assumption); (case v2 => walk_at "mem"); (case v3 => simp only [List.length_cons, List.length_nil, List.length_append]; omega); (case v4 => walk_at "put"); (case v5 => walk_at "own"); intro _ _)
  | with_reducible refine' Rd.asgT ?_
  | ((with_reducible refine' Rd.gtup ?v1 ?v2 ?v3 ?_); (case v1 => assumption); (case v2 => walk_at "mem"); (case v3 => exact rfl))
  | with_reducible refine' Rd.gcons ?_
  | with_reducible refine' Rd.gname ?_
  | with_reducible refine' Rd.gnil ?_
  | with_reducible refine' Rd.sl ?_
  | with_reducible refine' Rd.noPart ?_
  | with_reducible refine' Rd.part ?_
  | with_reducible refine' Rd.prt ?_
  | with_reducible refine' Rd.isB ?_
  | ((with_reducible refine' Rd.wp ?vh ?_); (case vh => exact rfl))
  | with_reducible refine' Rd.makeK ?_
  | with_reducible refine' Rd.meth ?_
  | ((with_reducible refine' Rd.catL ?v1 ?v2 ?v3 ?v4 ?_); (case v1 => assumption); (case v2 => walk_at "mem"); (case v3 => walk_at "mem"); (case v4 => simp only [List.length_cons, List.length_nil, List.length_append]; omega); intro _ _ _ _)
  | with_reducible refine' Rd.dnew ?_
  | ((with_reducible refine' Rd.dnewL ?v1 ?_); (case v1 => assumption); intro _ _ _ _)
  | with_reducible refine' Rd.lc ?_
  | with_reducible refine' Rd.wZ ?_
  | with_reducible refine' Rd.tYesH ?_
  | with_reducible refine' Rd.fmt ?_
  | with_reducible refine' Rd.joined ?_
  | with_reducible refine' Rd.jsNil ?_
  | with_reducible refine' Rd.jsCons ?_
  | ((with_reducible refine' Rd.isiT ?v1 ?v2 ?v3 ?v4 ?v5 ?_); (case v1 => assumption); (case v2 => walk_at "mem"); (case v3 => walk_at "ty"); (case v4 => first | exact .cons (.ty _) (.cons (.ty _) .nil) | exact .cons (.ty _) (.cons (.ty _) (.cons (.ty _) (.cons (.ty _) .nil))) | exact .cons (.ty _) (.cons (.ty _) (.cons (.ty _) .nil))); (case v5 => walk_at "kitA"))
  | with_reducible refine' Rd.forS ?_
  | with_reducible refine' Rd.wEnT ?_
  | ((with_reducible refine' Rd.wEnTL ?v1 ?v2 ?_); (case v1 => assumption); (case v2 => walk_at "mem"))
  | with_reducible refine' Rd.wL ?_
  | ((with_reducible refine' Rd.wLL ?v1 ?v2 ?_); (case v1 => assumption); (case v2 => walk_at "mem"))
  | with_reducible refine' Rd.wT ?_
  | ((with_reducible refine' Rd.wTL ?v1 ?v2 ?_); (case v1 => assumption); (case v2 => walk_at "mem"))
  | with_reducible refine' Rd.wR1 ?_
  | ((with_reducible refine' Rd.wR1L ?v1 ?v2 ?_); (case v1 => omega); (case v2 => omega))
  | with_reducible refine' Rd.wR2 ?_
  | ((with_reducible refine' Rd.wR2L ?v1 ?_); (case v1 => omega)))
local macro_rules | `(tactic| walk_at "rd") => `(tactic| repeat (walk_at "rd1"))

local macro_rules | `(tactic| walk_at "ask") => `(tactic| ((with_reducible refine' fill_ask ?v1 ?v2 ?v3 ?v4 ?v5 ?_); (case v1 => assumption); (case v2 => walk_at "mem"); (case v3 => walk_at "mem"); (case v4 => assumption); (case v5 => walk_at "own"); intro _ _))

local macro_rules | `(tactic| walk_at "ask") => `(tactic| ((with_reducible refine' take_ask ?v1 ?v2 ?v3 ?v4 ?v5 ?v6 ?_); (case v1 => assumption); (case v2 => walk_at "mem"); (case v3 => walk_at "mem"); (case v4 => assumption); (case v5 => walk_at "own"); (case v6 => first | decide | omega); intro _ _ _ _))
local macro_rules | `(tactic| walk_at "ask") => `(tactic| ((with_reducible refine' one_ask ?v1 ?v2 ?v3 ?v4 ?v5 ?_); (case v1 => assumption); (case v2 => walk_at "subl"); (case v3 => assumption); (case v4 => walk_at "own"); (case v5 => simp only [List.length_append, List.length_cons, List.length_nil]; decide); intro _ _ _ _))
local macro_rules | `(tactic| walk_at "ask") => `(tactic| ((with_reducible refine' fig_ask ?v1 ?v2 ?v3 ?v4 ?_); (case v1 => assumption); (case v2 => walk_at "subl"); (case v3 => assumption); (case v4 => walk_at "own"); intro _ _ _ _))
local macro_rules | `(tactic| walk_at "ask") => `(tactic| ((with_reducible refine' low_ask ?v1 ?v2 ?v3 ?v4 ?_); (case v1 => assumption); (case v2 => first | assumption | omega); (case v3 => omega); (case v4 => omega); intro _ _ _ _))
local macro_rules | `(tactic| walk_at "ask") => `(tactic| ((with_reducible refine' frac_ask ?v1 ?v2 ?v3 ?v4 ?_); (case v1 => assumption); (case v2 => walk_at "subl"); (case v3 => assumption); (case v4 => walk_at "own"); intro _ _ _ _ _ _ _))

local macro_rules | `(tactic| walk_at "ask") => `(tactic| with_reducible refine' isI_int ?_)
local macro_rules | `(tactic| walk_at "ask") => `(tactic| ((with_reducible refine' mk_span ?v1 ?v2 ?v3 ?_); (case v1 => assumption); (case v2 => first | assumption | omega); (case v3 => first | assumption | omega); intro _ _ _ _))
local macro_rules | `(tactic| walk_at "ask") => `(tactic| ((with_reducible refine' mk_span1 ?v1 ?_); (case v1 => assumption); intro _ _ _ _))
local macro_rules | `(tactic| walk_at "ask") => `(tactic| ((with_reducible refine' fld_over ?v1 ?v2 ?v3 ?v4 ?_); (case v1 => assumption); (case v2 => assumption); (case v3 => assumption); (case v4 => walk_at "mem")))
local macro_rules | `(tactic| walk_at "ask") => `(tactic| ((with_reducible refine' fld_under ?v1 ?v2 ?v3 ?v4 ?_); (case v1 => assumption); (case v2 => assumption); (case v3 => assumption); (case v4 => walk_at "mem")))
local macro_rules | `(tactic| walk_at "ty") => `(tactic| exact span_ty (by assumption) (by assumption) (by walk_at "mem"))

local macro_rules | `(tactic| walk_at "ask") => `(tactic| with_reducible refine' Rd.bmS ?_)
local macro_rules | `(tactic| walk_at "ask") => `(tactic| with_reducible refine' Rd.stw ?_)
local macro_rules | `(tactic| walk_at "ask") => `(tactic| ((with_reducible refine' Rd.rmp ?v1 ?_); (case v1 => omega)))
local macro_rules | `(tactic| walk_at "ask") => `(tactic| with_reducible refine' Rd.inSg ?_)
local macro_rules | `(tactic| walk_at "ask") => `(tactic| with_reducible refine' Rd.wS ?_)
local macro_rules | `(tactic| walk_at "ask") => `(tactic| with_reducible refine' Rd.wSL ?_)

section
variable {P : Program} {w : World} {K : PySem.W.Frag} {mg : Str → Option Value} {base : Heap}
def rLenS : List V → Hp → VK → Prop := fun xs H Q => ∃ z, xs = [.str z] ∧ z.length ≤ sizeLine ∧ Q (.int z.length) H
theorem call_lenS {X : Cx} : CallR X (.builtin "len") rLenS := call_len_str
theorem lenS {a : List Nat} {H : Hp} {Q : VK} (hl : a.length ≤ 1000) (h : Q (.int (a.length : Int)) H) : rLenS [TS a] H Q := ⟨_, rfl, S_le hl, by rw [SX.S_len]; exact h⟩
/-- a text with one sign changed, put in or left out -/
def spBent : Sp := fun vs H Q _ => ∃ (st c : Addr) (ns : List Int) (t : List Nat), vs = [.ref st, TS t] ∧ Stt H [st] (dled st c ns) H ∧ ns.length ≤ 63 ∧ t.length ≤ 80 ∧ ∀ t' H', t'.length ≤ t.length + 1 → Stt H [st] (dled st c ns) H' → Q (TS t') H'
theorem ok_l_bent (T : Txt K mg) : FnOk P w K mg base CX0 4 (He.fAd K ("_law_bent", none)) T.fd_l_bent ["_law_state", "_law_text_here"] spBent := by
  refine T.F_l_bent.ok sc_l_bent (fun vs H Q E h => ?_) (fun cdv A outer s H vs Q E hr h => ?_)
  · obtain ⟨st, c, ns, t, rfl, _⟩ := h
    rfl
  · obtain ⟨st, c, ns, t, rfl, s0, hn, hl, k⟩ := h
    refine ⟨_, PSs.nox (C8.pss_cut (ps_par (i := 2) (j := 3) (by rfl) sc_l_bent.nd rfl rfl (by decide) rfl rfl (pa_cons (pe_call (ok_l_take T) (hr.mono (by decide)) rfl T.g_l_take T.F_l_take.kp T.b_l_take .nil pass0 (pa_cons (pv 0) (pa_cons (pe_op op_add (pe_callB call_lenS (by rfl) T.n_len PySem.boot_len (pa_cons (pv 1) pa_nil)) pe_int) pa_nil))) (pa_cons (pe_call (ok_l_one T) (hr.mono (by decide)) rfl T.g_l_one T.F_l_one.kp T.b_l_one .nil pass0 (pa_cons (pv 0) (pa_cons (pe_callTy (call_listS rfl) (by rfl) T.n_list (by decide +kernel) (pa_cons (Lt.pe_strL (l := [47, 45, 43, 48, 49, 50, 51, 32, 97, 95]) (by decide +kernel)) pa_nil)) pa_nil))) pa_nil)) (by rfl))
  (C8.pss_cut (ps_asg (pe_call (ok_l_take T) (hr.mono (by decide)) rfl T.g_l_take T.F_l_take.kp T.b_l_take .nil pass0 (pa_cons (pv 0) (pa_cons pe_int pa_nil))) (pg_name (i := 4) sc_l_bent.nd rfl (by first | exact Or.inl rfl | exact Or.inr rfl)))
  (pss_one (ps_ret (pe_op op_addS (pe_op op_addS (pe_slice C8.sl_txt (pv 1) po_none (po_some (pv 2))) (pe_ifExp (pt_cmpR op_lt (pv 4) pe_int (nomark _)) (pv 3) (Lt.pe_strL (l := []) (by decide +kernel)))) (pe_slice C8.sl_txt (pv 1) (po_some (pe_op op_add (pv 2) (pe_ifExp (pt_cmpR op_eq (pv 4) pe_int (nomark _)) pe_int pe_int))) po_none)))))), ?_⟩
    walk_at "k"
    refine Rd.cut (fun σ' H' => ∃ (j : Nat) (d : Nat), σ' = [some (.ref st), some (TS t), some (.int (j : Int)), some (TS [d]), none] ∧ j ≤ t.length ∧ Stt H [st] (dled st c ns) H') ?_ ?_
    · walk_at "rd"
      refine lenS (by omega) ?_
      walk_at "rd"
      rename_i j H1 hj s1
      refine Rd.listS (xs := [47, 45, 43, 48, 49, 50, 51, 32, 97, 95].map fun d => TS [d]) (by rw [SX.S_len]; simp) rfl s1 fun p H2 hp s2 => ?_
      walk_at "rd"
      refine one_ask s2 (by walk_at "subl") hn (.inl (by walk_at "mem")) (by simp) fun v H3 hv s3 => ?_
      obtain ⟨d, _, rfl⟩ := List.mem_map.mp hv
      obtain ⟨j, rfl⟩ := Int.eq_ofNat_of_zero_le hj.1
      walk_at "rd"
      exact ⟨j, d, rfl, by omega, s3.sub (by walk_at "subl")⟩
    · rintro σ' H1 ⟨j, d, rfl, hj, s1⟩
      refine Rd.cut (fun σ' H' => ∃ (e : Int), σ' = [some (.ref st), some (TS t), some (.int (j : Int)), some (TS [d]), some (.int e)] ∧ Stt H [st] (dled st c ns) H') ?_ ?_
      · walk_at "rd"
        rename_i e H2 he s2
        exact ⟨e, rfl, s2⟩
      · rintro σ' H2 ⟨e, rfl, s2⟩
        clear s1
        have l1 : (t.take (Int.toNat (j : Int))).length ≤ t.length := by rw [List.length_take]; omega
        walk_at "rd"
        refine Rd.slTo (by omega) (by omega) ?_
        walk_at "rd"
        refine Rd.brD (fun c1 => ?_) (fun c1 => ?_)
        · walk_at "rd"
          refine Rd.addS (by simp only [List.length_cons, List.length_nil]; omega) ?_
          walk_at "rd"
          refine Rd.brD (fun c2 => ?_) (fun c2 => ?_)
          · walk_at "rd"
            refine Rd.slFrom (by omega) (by omega) ?_
            walk_at "rd"
            refine Rd.addS (by simp only [List.length_append, List.length_drop, List.length_cons, List.length_nil]; omega) ?_
            walk_at "rd"
            exact k _ _ (by simp only [List.length_append, List.length_take, List.length_drop, List.length_cons, List.length_nil]; omega) s2
          · walk_at "rd"
            refine Rd.slFrom (by omega) (by omega) ?_
            walk_at "rd"
            refine Rd.addS (by simp only [List.length_append, List.length_drop, List.length_cons, List.length_nil]; omega) ?_
            walk_at "rd"
            exact k _ _ (by simp only [List.length_append, List.length_take, List.length_drop, List.length_cons, List.length_nil]; omega) s2
        · walk_at "rd"
          refine Rd.addS (by simp only [List.length_cons, List.length_nil]; omega) ?_
          walk_at "rd"
          refine Rd.brD (fun c2 => ?_) (fun c2 => ?_)
          · walk_at "rd"
            refine Rd.slFrom (by omega) (by omega) ?_
            walk_at "rd"
            refine Rd.addS (by simp only [List.length_append, List.length_drop, List.length_cons, List.length_nil]; omega) ?_
            walk_at "rd"
            exact k _ _ (by simp only [List.length_append, List.length_take, List.length_drop, List.length_cons, List.length_nil]; omega) s2
          · walk_at "rd"
            refine Rd.slFrom (by omega) (by omega) ?_
            walk_at "rd"
            refine Rd.addS (by simp only [List.length_append, List.length_drop, List.length_cons, List.length_nil]; omega) ?_
            walk_at "rd"
            exact k _ _ (by simp only [List.length_append, List.length_take, List.length_drop, List.length_cons, List.length_nil]; omega) s2
end

end
section
local macro_rules | `(tactic| walk_at "subl") => `(tactic| first | with_reducible exact List.nil_sublist _ | with_reducible exact List.Sublist.refl _ | (with_reducible refine List.Sublist.cons₂ _ ?_; walk_at "subl") | (with_reducible refine List.Sublist.cons _ ?_; walk_at "subl"))
local macro_rules | `(tactic| walk_at "k") => `(tactic| try dsimp only [L2.cxOf, L2.Cx.nox, L2.Cx.wish, L2.Cx.blk])
local macro_rules | `(tactic| walk_at "ask") => `(tactic| fail)
local macro_rules | `(tactic| walk_at "mem") => `(tactic| first | with_reducible exact List.mem_cons_self | (with_reducible apply List.mem_cons_of_mem; walk_at "mem"))
local macro_rules | `(tactic| walk_at "put") => `(tactic| first | with_reducible exact Lt.Put.head | (with_reducible apply Lt.Put.tail; walk_at "put"))
local macro_rules | `(tactic| walk_at "own") => `(tactic| first | exact Or.inr (by assumption) | exact Or.inl (by walk_at "mem"))
local macro_rules | `(tactic| walk_at "cnd") => `(tactic| first | assumption | decide | ((try dsimp only); omega) | (unfold CMul; omega) | (unfold CDiv; omega) | (unfold CPow; omega) | exact Or.inr (by decide) | exact Or.inl (by decide) | exact wide_div (b := 128) (by omega) (by omega) (by decide) (by decide))
local macro_rules | `(tactic| walk_at "at") => `(tactic| first | exact rfl | assumption)
local macro_rules | `(tactic| walk_at "kit") => `(tactic| first | assumption | exact kit_int_int | exact kit_int_bool | exact kit_int_str | exact kit_int_list | exact kit_int_tuple | exact kit_int_dict | exact kit_bool_int | exact kit_bool_bool | exact kit_bool_str | exact kit_bool_list | exact kit_bool_tuple | exact kit_bool_dict | exact kit_str_int | exact kit_str_bool | exact kit_str_str | exact kit_str_list | exact kit_str_tuple | exact kit_str_dict | exact kit_list_int | exact kit_list_bool | exact kit_list_str | exact kit_list_list | exact kit_list_tuple | exact kit_list_dict | exact kit_tuple_int | exact kit_tuple_bool | exact kit_tuple_str | exact kit_tuple_list | exact kit_tuple_tuple | exact kit_tuple_dict | exact kit_dict_int | exact kit_dict_bool | exact kit_dict_str | exact kit_dict_list | exact kit_dict_tuple | exact kit_dict_dict | exact kit_NoneType_int | exact kit_NoneType_bool | exact kit_NoneType_str | exact kit_NoneType_list | exact kit_NoneType_tuple | exact kit_NoneType_dict)
local macro_rules | `(tactic| walk_at "kitA") => `(tactic| first | assumption | exact kitA_lt_int | exact kitA_lt_bool | exact kitA_lt_str | exact kitA_lt_list | exact kitA_lt_tuple | exact kitA_lt_dict | exact kitA_lt_NoneType | exact kitA_bilt_int | exact kitA_bilt_bool | exact kitA_bilt_str | exact kitA_bilt_list | exact kitA_bilt_tuple | exact kitA_bilt_dict | exact kitA_bilt_NoneType)
local macro_rules | `(tactic| walk_at "ty") => `(tactic| first | exact .base (.int _) | exact .base (.bl _) | exact .base (.str _) | exact .base .non | exact .base (.lst (Stt.get (by assumption) (by walk_at "mem"))) | exact .base (.tup (Stt.get (by assumption) (by walk_at "mem"))) | exact .base (.dK (Stt.get (by assumption) (by walk_at "mem"))) | exact sqL_ty (Stt.upL (by assumption) (by assumption)) | exact sqT_ty (Stt.upT (by assumption) (by assumption)) | exact InsT.ty (by assumption) (Stt.get (by assumption) (by walk_at "mem")) | assumption)
local macro_rules | `(tactic| walk_at "rd1") => `(tactic| first
  | with_reducible refine' Rd.seq ?_
  | with_reducible refine' Rd.asg ?_
  | ((with_reducible refine' Rd.var ?vh ?_); (case vh => exact rfl))
  | with_reducible refine' Rd.con ?_
  | with_reducible refine' Rd.op ?_
  | with_reducible refine' Rd.i0 ?_
  | ((with_reducible refine' Rd.ic ?vh ?_); (case vh => walk_at "cnd"))
  | ((with_reducible refine' Rd.ixL ?v1 ?v2 ?v3 ?_); (case v1 => assumption); (case v2 => walk_at "mem"); (case v3 => walk_at "at"))
  | ((with_reducible refine' Rd.ixT ?v1 ?v2 ?v3 ?_); (case v1 => assumption); (case v2 => walk_at "mem"); (case v3 => walk_at "at"))
  | ((with_reducible refine' Rd.ixD2 ?v1 ?v2 ?_); (case v1 => assumption); (case v2 => walk_at "mem"); intro _)
  | ((with_reducible refine' Rd.ixD3 ?v1 ?v2 ?_); (case v1 => assumption); (case v2 => walk_at "mem"); intro _)
  | ((with_reducible refine' Rd.setD2 ?v1 ?v2 ?v3 ?v4 ?_); (case v1 => assumption); (case v2 => walk_at "mem"); (case v3 => walk_at "put"); (case v4 => walk_at "own"); intro _ _)
  | ((with_reducible refine' Rd.isi ?v1 ?v2 ?v3 ?_); (case v1 => walk_at "ty"); (case v2 => first | exact ClsV.ty _ | exact ClsV.own _); (case v3 => walk_at "kit"))
  | with_reducible refine' Rd.fld ?_
  | ((with_reducible refine' Rd.fldI ?v1 ?v2 ?v3 ?v4 ?v5 ?_); (case v1 => assumption); (case v2 => walk_at "mem"); (case v3 => assumption); (case v4 => assumption); (case v5 => walk_at "at"))
  | with_reducible refine' Rd.sfld ?_
  | ((with_reducible refine' Rd.sfldI ?v1 ?v2 ?v3 ?v4 ?v5 ?v6 ?v7 ?_); (case v1 => assumption); (case v2 => walk_at "mem"); (case v3 => assumption); (case v4 => assumption); (case v5 => first | decide | (refine Nat.lt_of_le_of_lt (putF_len _ _ _) ?_; decide)); (case v6 => walk_at "put"); (case v7 => walk_at "own"); intro _ _)
  | with_reducible refine' Rd.make ?_
  | with_reducible refine' Rd.gcd ?_
  | with_reducible refine' Rd.cons ?_
  | with_reducible refine' Rd.nil ?_
  | with_reducible refine' Rd.cb ?_
  | with_reducible refine' Rd.intI ?_
  | with_reducible refine' Rd.absI ?_
  | ((with_reducible refine' Rd.lenL ?v1 ?v2 ?_); (case v1 => assumption); (case v2 => walk_at "mem"))
  | ((with_reducible refine' Rd.lenT ?v1 ?v2 ?_); (case v1 => assumption); (case v2 => walk_at "mem"))
  | ((with_reducible refine' Rd.lenBL ?v1 ?v2 ?v3 ?_); (case v1 => assumption); (case v2 => assumption); (case v3 => first | exact List.not_mem_nil | assumption))
  | ((with_reducible refine' Rd.lenBT ?v1 ?v2 ?v3 ?_); (case v1 => assumption); (case v2 => assumption); (case v3 => first | exact List.not_mem_nil | assumption))
  | ((with_reducible refine' Rd.ixBL ?v1 ?v2 ?v4 ?v3 ?_); (case v1 => assumption); (case v2 => assumption); (case v4 => first | exact List.not_mem_nil | assumption); (case v3 => walk_at "at"))
  | ((with_reducible refine' Rd.ixBT ?v1 ?v2 ?v4 ?v3 ?_); (case v1 => assumption); (case v2 => assumption); (case v4 => first | exact List.not_mem_nil | assumption); (case v3 => walk_at "at"))
  | ((with_reducible refine' Rd.brI ?vh ?_); (case vh => with_reducible exact rfl))
  | with_reducible refine' Rd.ifS ?_
  | with_reducible refine' Rd.test ?_
  | with_reducible refine' Rd.tbl ?_
  | with_reducible refine' Rd.bl ?_
  | with_reducible refine' Rd.brTT ?_
  | with_reducible refine' Rd.brFF ?_
  | with_reducible refine' Rd.brN ?_
  | ((with_reducible refine' Rd.aug ?vh ?_); (case vh => exact rfl))
  | with_reducible refine' Rd.ipI ?_
  | with_reducible refine' Rd.blV ?_
  | with_reducible refine' Rd.notVL ?_
  | with_reducible refine' Rd.andT ?_
  | with_reducible refine' Rd.orT ?_
  | with_reducible refine' Rd.notT ?_
  | with_reducible refine' Rd.andV ?_
  | with_reducible refine' Rd.orV ?_
  | with_reducible refine' Rd.notV ?_
  | with_reducible refine' Rd.ifE ?_
  | ((with_reducible refine' Rd.eqS ?vh ?_); (case vh => exact rfl))
  | ((with_reducible refine' Rd.neS ?vh ?_); (case vh => exact rfl))
  | with_reducible refine' Rd.par ?_
  | with_reducible refine' Rd.parL ?_
  | with_reducible refine' Rd.un ?_
  | with_reducible refine' Rd.u1 ?_
  | with_reducible refine' Rd.sub ?_
  | ((with_reducible refine' Rd.setL ?v1 ?v2 ?v3 ?v4 ?v5 ?_); (case v1 => assumption); (case v2 => walk_at "mem"); (case v3 => walk_at "at"); (case v4 => walk_at "put"); (case v5 => walk_at "own"); intro _ _)
  | with_reducible refine' Rd.tup ?_
  | with_reducible refine' Rd.lst ?_
  | ((with_reducible refine' Rd.tupN ?v1 ?v2 ?_); (case v1 => assumption); (case v2 => simp only [List.length_cons, List.length_nil]; decide); intro _ _ _ _)
  | ((with_reducible refine' Rd.lstN ?v1 ?v2 ?_); (case v1 => assumption); (case v2 => simp only [List.length_cons, List.length_nil]; decide); intro _ _ _ _)
  | with_reducible refine' Rd.ret ?_
  | with_reducible refine' Rd.drop ?_
  | with_reducible refine' Rd.retN ?_
  | with_reducible refine' Rd.next ?_
  | with_reducible refine' Rd.brk ?_
  | with_reducible refine' Rd.cont ?_
  | with_reducible refine' Rd.call ?_
  | walk_at "ask"
  | with_reducible refine' Rd.bm ?_
  | ((with_reducible refine' Rd.bmL ?v1 ?v2 ?_); (case v1 => assumption); (case v2 => walk_at "mem"))
  | ((with_reducible refine' Rd.app ?v1 ?v2 ?v3 ?v4 ?v5 ?_); (case v1 => assumption); (case v2 => walk_at "mem"); (case v3 => simp only [List.length_cons, List.length_nil, List.length_append]; omega); (case v4 => walk_at "put"); (case v5 => walk_at "own"); intro _ _)
  | with_reducible refine' Rd.asgT ?_
  | ((with_reducible refine' Rd.gtup ?v1 ?v2 ?v3 ?_); (case v1 => assumption); (case v2 => walk_at "mem"); (case v3 => exact rfl))
  | with_reducible refine' Rd.gcons ?_
  | with_reducible refine' Rd.gname ?_
  | with_reducible refine' Rd.gnil ?_
  | with_reducible refine' Rd.sl ?_
  | with_reducible refine' Rd.noPart ?_
  | with_reducible refine' Rd.part ?_
  | with_reducible refine' Rd.prt ?_
  | with_reducible refine' Rd.isB ?_
  | ((with_reducible refine' Rd.wp ?vh ?_); (case vh => exact rfl))
  | with_reducible refine' Rd.makeK ?_
  | with_reducible refine' Rd.meth ?_
  | ((with_reducible refine' Rd.catL ?v1 ?v2 ?v3 ?v4 ?_); (case v1 => assumption); (case v2 => walk_at "mem"); (case v3 => walk_at "mem"); (case v4 => simp only [List.length_cons, List.length_nil, List.length_append]; omega); intro _ _ _ _)
  | with_reducible refine' Rd.dnew ?_
  | ((with_reducible refine' Rd.dnewL ?v1 ?_); (case v1 => assumption); intro _ _ _ _)
  | with_reducible refine' Rd.lc ?_
  | with_reducible refine' Rd.wZ ?_
  | with_reducible refine' Rd.tYesH ?_
  | with_reducible refine' Rd.fmt ?_
  | with_reducible refine' Rd.joined ?_
  | with_reducible refine' Rd.jsNil ?_
  | with_reducible refine' Rd.jsCons ?_
  | ((with_reducible refine' Rd.isiT ?v1 ?v2 ?v3 ?v4 ?v5 ?_); (case v1 => assumption); (case v2 => walk_at "mem"); (case v3 => walk_at "ty"); (case v4 => first | exact .cons (.ty _) (.cons (.ty _) .nil) | exact .cons (.ty _) (.cons (.ty _) (.cons (.ty _) (.cons (.ty _) .nil))) | exact .cons (.ty _) (.cons (.ty _) (.cons (.ty _) .nil))); (case v5 => walk_at "kitA"))
  | with_reducible refine' Rd.forS ?_
  | with_reducible refine' Rd.wEnT ?_
  | ((with_reducible refine' Rd.wEnTL ?v1 ?v2 ?_); (case v1 => assumption); (case v2 => walk_at "mem"))
  | with_reducible refine' Rd.wL ?_
  | ((with_reducible refine' Rd.wLL ?v1 ?v2 ?_); (case v1 => assumption); (case v2 => walk_at "mem"))
  | with_reducible refine' Rd.wT ?_
  | ((with_reducible refine' Rd.wTL ?v1 ?v2 ?_); (case v1 => assumption); (case v2 => walk_at "mem"))
  | with_reducible refine' Rd.wR1 ?_
  | ((with_reducible refine' Rd.wR1L ?v1 ?v2 ?_); (case v1 => omega); (case v2 => omega))
  | with_reducible refine' Rd.wR2 ?_
  | ((with_reducible refine' Rd.wR2L ?v1 ?_); (case v1 => omega)))
local macro_rules | `(tactic| walk_at "rd") => `(tactic| repeat (walk_at "rd1"))

local macro_rules | `(tactic| walk_at "ask") => `(tactic| ((with_reducible refine' fill_ask ?v1 ?v2 ?v3 ?v4 ?v5 ?_); (case v1 => assumption); (case v2 => walk_at "mem"); (case v3 => walk_at "mem"); (case v4 => assumption); (case v5 => walk_at "own"); intro _ _))

local macro_rules | `(tactic| walk_at "ask") => `(tactic| ((with_reducible refine' take_ask ?v1 ?v2 ?v3 ?v4 ?v5 ?v6 ?_); (case v1 => assumption); (case v2 => walk_at "mem"); (case v3 => walk_at "mem"); (case v4 => assumption); (case v5 => walk_at "own"); (case v6 => first | decide | omega); intro _ _ _ _))
local macro_rules | `(tactic| walk_at "ask") => `(tactic| ((with_reducible refine' one_ask ?v1 ?v2 ?v3 ?v4 ?v5 ?_); (case v1 => assumption); (case v2 => walk_at "subl"); (case v3 => assumption); (case v4 => walk_at "own"); (case v5 => simp only [List.length_append, List.length_cons, List.length_nil]; decide); intro _ _ _ _))
local macro_rules | `(tactic| walk_at "ask") => `(tactic| ((with_reducible refine' fig_ask ?v1 ?v2 ?v3 ?v4 ?_); (case v1 => assumption); (case v2 => walk_at "subl"); (case v3 => assumption); (case v4 => walk_at "own"); intro _ _ _ _))
local macro_rules | `(tactic| walk_at "ask") => `(tactic| ((with_reducible refine' low_ask ?v1 ?v2 ?v3 ?v4 ?_); (case v1 => assumption); (case v2 => first | assumption | omega); (case v3 => omega); (case v4 => omega); intro _ _ _ _))
local macro_rules | `(tactic| walk_at "ask") => `(tactic| ((with_reducible refine' frac_ask ?v1 ?v2 ?v3 ?v4 ?_); (case v1 => assumption); (case v2 => walk_at "subl"); (case v3 => assumption); (case v4 => walk_at "own"); intro _ _ _ _ _ _ _))

local macro_rules | `(tactic| walk_at "ask") => `(tactic| with_reducible refine' isI_int ?_)
local macro_rules | `(tactic| walk_at "ask") => `(tactic| ((with_reducible refine' mk_span ?v1 ?v2 ?v3 ?_); (case v1 => assumption); (case v2 => first | assumption | omega); (case v3 => first | assumption | omega); intro _ _ _ _))
local macro_rules | `(tactic| walk_at "ask") => `(tactic| ((with_reducible refine' mk_span1 ?v1 ?_); (case v1 => assumption); intro _ _ _ _))
local macro_rules | `(tactic| walk_at "ask") => `(tactic| ((with_reducible refine' fld_over ?v1 ?v2 ?v3 ?v4 ?_); (case v1 => assumption); (case v2 => assumption); (case v3 => assumption); (case v4 => walk_at "mem")))
local macro_rules | `(tactic| walk_at "ask") => `(tactic| ((with_reducible refine' fld_under ?v1 ?v2 ?v3 ?v4 ?_); (case v1 => assumption); (case v2 => assumption); (case v3 => assumption); (case v4 => walk_at "mem")))
local macro_rules | `(tactic| walk_at "ty") => `(tactic| exact span_ty (by assumption) (by assumption) (by walk_at "mem"))

local macro_rules | `(tactic| walk_at "ask") => `(tactic| with_reducible refine' Rd.bmS ?_)
local macro_rules | `(tactic| walk_at "ask") => `(tactic| with_reducible refine' Rd.stw ?_)
local macro_rules | `(tactic| walk_at "ask") => `(tactic| ((with_reducible refine' Rd.rmp ?v1 ?_); (case v1 => omega)))
local macro_rules | `(tactic| walk_at "ask") => `(tactic| with_reducible refine' Rd.inSg ?_)
local macro_rules | `(tactic| walk_at "ask") => `(tactic| with_reducible refine' Rd.wS ?_)
local macro_rules | `(tactic| walk_at "ask") => `(tactic| with_reducible refine' Rd.wSL ?_)

section
variable {P : Program} {w : World} {K : PySem.W.Frag} {mg : Str → Option Value} {base : Heap}
abbrev madeS : List Nat := [109, 97, 100, 101]
abbrev textS : List Nat := [116, 101, 120, 116]
theorem ltxt_ask {H0 H : Hp} {S : List Addr} {l : Led} {p : Addr} {a b : Int} {Q : VK} {E : XK} (s : Stt H0 S l H) (m : (p, Is (.tup [.int a, .int b])) ∈ l) (hb : 0 < b) (b1 : a.natAbs < 10 ^ 100) (b2 : b.natAbs < 10 ^ 100) (k : Q (TS (txt a b)) H) : spLTxt K ([.ref p] ++ []) H Q E :=
  ⟨p, a, b, rfl, s.sqT m, hb, b1, b2, k⟩
theorem tried_ask {H0 H : Hp} {l : Led} {t : List Nat} {neg : Bool} {h : List Nat} {u : Option (List Nat)} {Q : VK} {E : XK} (s : Stt H0 [] l H) (hc : Cut t neg h u) (hl : t.length ≤ 90)
    (k1 : okT neg h u = true → ∀ r H', H0 r = none → Stt H0 [] ((r, Is (.tup [TS madeS, .int (ovr neg h), .int (und u), TS t])) :: l) H' → Q (.ref r) H')
    (k2 : okT neg h u = false → ∀ r H', H0 r = none → Stt H0 [] ((r, Is (.tup [TS textS, .int 1])) :: l) H' → Q (.ref r) H') : spTried K ([TS t] ++ []) H Q E :=
  ⟨t, neg, h, u, rfl, hc, hl, fun e r H' hr z => k1 e r H' (s.none hr) ((s.after0 z.keep).add (z.pick List.mem_cons_self) (s.fresh hr)), fun e r H' hr z => k2 e r H' (s.none hr) ((s.after0 z.keep).add (z.pick List.mem_cons_self) (s.fresh hr))⟩
theorem ist_ask {H0 H : Hp} {l : Led} {t : List Nat} {neg : Bool} {h : List Nat} {u : Option (List Nat)} {Q : VK} {E : XK} (s : Stt H0 [] l H) (hc : Cut t neg h u) (hl : t.length ≤ 90) (k : ∀ H', Stt H0 [] l H' → Q (.bl (okT neg h u)) H') : spIsT ([TS t] ++ []) H Q E :=
  ⟨t, neg, h, u, rfl, hc, hl, fun H' kp => k H' (s.after0 kp)⟩
theorem bent_ask {H0 H : Hp} {S : List Addr} {l : Led} {st c : Addr} {ns : List Int} {t : List Nat} {Q : VK} {E : XK} (s : Stt H0 S l H) (sb : List.Sublist (dled st c ns) l) (hn : ns.length ≤ 63) (hs : st ∈ S ∨ H0 st = none) (hl : t.length ≤ 80)
    (k : ∀ t' H', t'.length ≤ t.length + 1 → Stt H0 S l H' → Q (TS t') H') : spBent ([.ref st, TS t] ++ []) H Q E :=
  ⟨st, c, ns, t, rfl, s.base sb, hn, hl, fun t' H' a q => k t' H' a (s.after1 (f := DrS c) (sb.subset (by simp)) q.keep hs (q.pick (by walk_at "mem")))⟩
theorem wS {a : List Nat} (h : a.length ≤ 1000) : PyData.weight (.str (SX.S a)) ≤ 1000 := by
  show (SX.S a).cps.size ≤ 1000
  have : (SX.S a).cps.size = a.length := SX.S_len a
  omega
theorem sameS_ask {H0 H : Hp} {l : Led} {a : List Nat} {Q : VK} {E : XK} (s : Stt H0 [] l H) (hl : a.length ≤ 1000) (k : ∀ H', Stt H0 [] l H' → Q (.bl true) H') : spSame K 1 ([TS a, TS a] ++ []) H Q E :=
  ⟨_, _, .str (SX.S a), rfl, .str _, .str _, by simp [PyData.depth], Nat.le_trans (wS hl) (by decide), fun H' kp => k H' (s.after0 kp)⟩
theorem sameT_ask {H0 H : Hp} {l : Led} {p r : Addr} {a t : List Nat} {x y : Int} {Q : VK} {E : XK} (s : Stt H0 [] l H) (h1 : (p, Is (.tup [TS a, .int x, .int y, TS t])) ∈ l) (h2 : (r, Is (.tup [TS a, .int x, .int y, TS t])) ∈ l)
    (l1 : a.length ≤ 1000) (l2 : t.length ≤ 1000) (b1 : x.natAbs < 2 ^ 8000) (b2 : y.natAbs < 2 ^ 8000) (k : ∀ H', Stt H0 [] l H' → Q (.bl true) H') : spSame K 1 ([.ref p, .ref r] ++ []) H Q E := by
  have w1 : x.natAbs.log2 < 8000 := PySem.Flt.log2_lt_of (by decide) b1
  have w2 : y.natAbs.log2 < 8000 := PySem.Flt.log2_lt_of (by decide) b2
  have w3 := wS l1
  have w4 := wS l2
  have w5 : PyData.weight (.int x) ≤ 8001 := by (simp only [PyData.weight]; split <;> omega)
  have w6 : PyData.weight (.int y) ≤ 8001 := by (simp only [PyData.weight]; split <;> omega)
  have d : ∀ {q : Addr}, (q, Is (.tup [TS a, .int x, .int y, TS t])) ∈ l → Dp K H (.ref q) (.tuple [.str (SX.S a), .int x, .int y, .str (SX.S t)]) := fun m => .tup (s.sqT m) (.cons (.str _) (.cons (.int _) (.cons (.int _) (.cons (.str _) .nil))))
  refine ⟨_, _, _, rfl, d h1, d h2, by simp [PyData.depth, PyData.depthAll], ?_, fun H' kp => k H' (s.after0 kp)⟩
  show PyData.weight (.str (SX.S a)) + 1 + (PyData.weight (.int x) + 1 + (PyData.weight (.int y) + 1 + (PyData.weight (.str (SX.S t)) + 1 + 0))) ≤ 90000
  omega
def spLaw (K : PySem.W.Frag) : Sp := fun vs H Q _ => ∃ (a : Addr) (ns : List Int), vs = [.ref a] ∧ SqL K H a (ns.map V.int) ∧ ns.length ≤ 63 ∧ ∀ H', Q (.bl true) H'
theorem ok_law (T : Txt K mg) : FnOk P w K mg base CX0 8 (He.fAd K ("law", none)) T.fd_law ["_law_script"] (spLaw K) := by
  refine T.F_law.ok sc_law (fun vs H Q E h => ?_) (fun cdv A outer s H vs Q E hr h => ?_)
  · obtain ⟨a, ns, rfl, _⟩ := h
    rfl
  · obtain ⟨a, ns, rfl, hS, hl, k⟩ := h
    refine ⟨_, PSs.nox (pss_cons (ps_asg (pe_call (ok_l_fresh T) (hr.mono (by decide)) rfl T.g_l_fresh T.F_l_fresh.kp T.b_l_fresh .nil pass0 (pa_cons (pv 0) pa_nil)) (pg_name (i := 1) sc_law.nd rfl (by first | exact Or.inl rfl | exact Or.inr rfl)))
  (pss_cons (ps_for PassesOwn.never rfl (pi_range1 rfl T.n_range (pa_cons pe_int pa_nil)) (pg_name (i := 2) sc_law.nd rfl (by first | exact Or.inl rfl | exact Or.inr rfl))
   (C8.pss_cut (ps_asg (pe_call (ok_l_fraction T) (hr.mono (by decide)) rfl T.g_l_fraction T.F_l_fraction.kp T.b_l_fraction .nil pass0 (pa_cons (pv 1) pa_nil)) (pg_name (i := 3) sc_law.nd rfl (by first | exact Or.inl rfl | exact Or.inr rfl)))
  (C8.pss_cut (ps_asg (pe_call (ok_l_text T) (hr.mono (by decide)) rfl T.g_l_text T.F_l_text.kp T.b_l_text .nil pass0 (pa_cons (pv 3) pa_nil)) (pg_name (i := 4) sc_law.nd rfl (by first | exact Or.inl rfl | exact Or.inr rfl)))
  (C8.pss_cut (ps_if (PW.pt (pw_or (pt_not (pt_val (pe_call (ok_l_same T 1 (by decide)) (hr.mono (by decide)) rfl T.g_l_same T.F_l_same.kp T.b_l_same .nil pass0 (pa_cons (pe_meth0 (pe_makeX T.k_Span (ok_Span_init T) (hr.mono (by decide)) rfl T.g_Span T.b_Span_init2 pass0 (pa_cons (pe_ix ix_tup (pv 3) pe_int (fun _ _ => rfl)) (pa_cons (pe_ix ix_tup (pv 3) pe_int (fun _ _ => rfl)) pa_nil))) T.c_Span T.m_Span_text (ok_Span_text T) (hr.mono (by decide)) T.b_Span_text .nil pass0) (pa_cons (pv 4) pa_nil))))) (pw_or1 (pt_not (pt_val (pe_call (ok_l_same T 1 (by decide)) (hr.mono (by decide)) rfl T.g_l_same T.F_l_same.kp T.b_l_same .nil pass0 (pa_cons (pe_call (ok_l_tried T) (hr.mono (by decide)) rfl T.g_l_tried T.F_l_tried.kp T.b_l_tried .nil pass0 (pa_cons (pv 4) pa_nil)) (pa_cons (pe_tup (pa_cons (Lt.pe_strL (l := [109, 97, 100, 101]) (by decide +kernel)) (pa_cons (pe_ix ix_tup (pv 3) pe_int (fun _ _ => rfl)) (pa_cons (pe_ix ix_tup (pv 3) pe_int (fun _ _ => rfl)) (pa_cons (pv 4) pa_nil))))) pa_nil)))))))) (pss_one (ps_ret pe_bl))
   pss_nil)
  (C8.pss_cut (ps_setLc (i := 5) (own := [("_law_k", 9)]) (g := gName 9) (tt := tYes) (by rfl) sc_law.nd rfl rfl (sw_true rfl rfl rfl (by decide +kernel)) (pi_range1 rfl T.n_range (pa_cons pe_int pa_nil)) (blkOk_by (own := [("_law_k", 9)]) (N := ["_law_script", "_law_state", "_law_turn", "_law_x", "_law_text_here", "_law_others", "_law_some", "_law_other", "_law_found", "_law_k"]) (sc := defScope s_law) (by decide +kernel)) (fun _ _ _ _ _ => (pg_name (i := 9) sc_law.nd rfl (by first | exact Or.inl rfl | exact Or.inr rfl))) (fun _ _ _ _ _ => pts_nil) (fun _ _ _ _ _ => (pe_call (ok_l_bent T) (hr.mono (by decide)) rfl T.g_l_bent T.F_l_bent.kp T.b_l_bent .nil pass0 (pa_cons (pv 1) (pa_cons (pv 4) pa_nil)))))
  (pss_cons (ps_asg (pe_lst (pa_cons (Lt.pe_strL (l := []) (by decide +kernel)) (pa_cons (Lt.pe_strL (l := [47]) (by decide +kernel)) (pa_cons (Lt.pe_strL (l := [45]) (by decide +kernel)) (pa_cons (Lt.pe_strL (l := [49, 47]) (by decide +kernel)) (pa_cons (Lt.pe_strL (l := [47, 50]) (by decide +kernel)) (pa_cons (Lt.pe_strL (l := [50, 47, 52]) (by decide +kernel)) (pa_cons (Lt.pe_strL (l := [45, 48]) (by decide +kernel)) (pa_cons (Lt.pe_strL (l := [48, 47, 53]) (by decide +kernel)) (pa_cons (Lt.pe_strL (l := [49, 47, 45, 50]) (by decide +kernel)) (pa_cons (Lt.pe_strL (l := [49, 47, 50, 47, 51]) (by decide +kernel)) (pa_cons (Lt.pe_strL (l := [43, 49]) (by decide +kernel)) (pa_cons (Lt.pe_strL (l := [49, 46, 53]) (by decide +kernel)) (pa_cons (Lt.pe_strL (l := [45, 32, 49]) (by decide +kernel)) (pa_cons (Lt.pe_strL (l := [49, 47, 48]) (by decide +kernel)) (pa_cons (Lt.pe_strL (l := [51, 47, 49]) (by decide +kernel)) pa_nil)))))))))))))))) (pg_name (i := 6) sc_law.nd rfl (by first | exact Or.inl rfl | exact Or.inr rfl)))
  (C8.pss_cut (ps_expr (pe_bm PySem.F.plainAttrs_list PySem.F.slot_list_append PySem.F.type_list_append mt_append (pv 5) (pa_cons (pe_call (ok_l_one T) (hr.mono (by decide)) rfl T.g_l_one T.F_l_one.kp T.b_l_one .nil pass0 (pa_cons (pv 1) (pa_cons (pv 6) pa_nil))) pa_nil)))
  (pss_one (ps_for PassesOwn.never rfl (pi_list (pv 5)) (pg_name (i := 7) sc_law.nd rfl (by first | exact Or.inl rfl | exact Or.inr rfl))
   (C8.pss_cut (ps_asg (pe_call (ok_l_tried T) (hr.mono (by decide)) rfl T.g_l_tried T.F_l_tried.kp T.b_l_tried .nil pass0 (pa_cons (pv 7) pa_nil)) (pg_name (i := 8) sc_law.nd rfl (by first | exact Or.inl rfl | exact Or.inr rfl)))
  (C8.pss_cut (ps_if (PW.pt (pw_or (pt_cmpR op_ne (pe_call (ok_l_is_text T) (hr.mono (by decide)) rfl T.g_l_is_text T.F_l_is_text.kp T.b_l_is_text .nil pass0 (pa_cons (pv 7) pa_nil)) (pe_cmpR op_eq (pe_ix ix_tup (pv 8) pe_int (fun _ _ => rfl)) (Lt.pe_strL (l := [109, 97, 100, 101]) (by decide +kernel)) (nomark _)) (nomark _)) (pw_or1 (PW.pt (pw_and (pt_cmpR op_eq (pe_ix ix_tup (pv 8) pe_int (fun _ _ => rfl)) (Lt.pe_strL (l := [109, 97, 100, 101]) (by decide +kernel)) (nomark _)) (pw_and1 (pt_cmpR op_ne (pe_ix ix_tup (pv 8) pe_int (fun _ _ => rfl)) (pv 7) (nomark _)))))))) (pss_one (ps_ret pe_bl))
   pss_nil)
  (pss_one (ps_if (PW.pt (pw_and (pt_cmpR op_ne (pe_ix ix_tup (pv 8) pe_int (fun _ _ => rfl)) (Lt.pe_strL (l := [109, 97, 100, 101]) (by decide +kernel)) (nomark _)) (pw_and1 (pt_cmpR (op_neD hr.units) (pv 8) (pe_tup (pa_cons (Lt.pe_strL (l := [116, 101, 120, 116]) (by decide +kernel)) (pa_cons pe_int pa_nil))) (nomark _))))) (pss_one (ps_ret pe_bl))
   pss_nil)))))))))))))
  (pss_one (ps_ret pe_bl)))), ?_⟩
    walk_at "k"
    have c1 := T.c_Span
    have c2 := T.a_Span_over
    have c3 := T.a_Span_under
    walk_at "rd"
    refine ⟨a, ns, rfl, hS, hl, fun st c ms H1 hst s1 hm => ?_⟩
    walk_at "rd"
    refine Rd.loop (walk_range (lo := 0) (n := Int.toNat 8)) (fun i σ H' => ∃ v2 v3 v4 v5 v6 v7 v8 v9 : Option V, σ = [some (.ref a), some (.ref st), v2, v3, v4, v5, v6, v7, v8, v9] ∧ Stt H [] (dled st c ms) H') ⟨_, _, _, _, _, _, _, _, rfl, s1⟩ (fun _ _ _ _ _ => trivial) ?_ ?_
    · rintro i x σ H2 H3 hi ⟨v2, v3, v4, v5, v6, v7, v8, v9, rfl, s2⟩ ⟨rfl, rfl⟩
      walk_at "rd"
      refine Rd.cut (fun σ' H' => ∃ (p : Addr) (x0 x1 : Int), σ' = [some (.ref a), some (.ref st), some (.int (0 + (i : Int))), some (.ref p), v4, v5, v6, v7, v8, v9] ∧ (0 < x1 ∧ Int.gcd x0 x1 = 1 ∧ x0.natAbs < 2 ^ 100 ∧ x1.natAbs < 2 ^ 40) ∧ Stt H [] ((p, Is (.tup [.int x0, .int x1])) :: dled st c ms) H') ?_ ?_
      · walk_at "rd"
        rename_i p x0 x1 H4 hp hx s3
        exact ⟨p, x0, x1, rfl, hx, s3⟩
      · rintro σ' H4 ⟨p, x0, x1, rfl, ⟨x1p, xg, xb0, xb1⟩, s4⟩
        have e0 : x0.natAbs < 10 ^ 31 := Nat.lt_of_lt_of_le xb0 (by decide)
        have e1 : x1.natAbs < 10 ^ 13 := Nat.lt_of_lt_of_le xb1 (by decide)
        have tlen := txt_len (x := x0) (y := x1) (j := 31) (k := 13) (by decide) (by decide) e0 e1
        have f0 : x0.natAbs < 10 ^ 100 := Nat.lt_of_lt_of_le e0 (by decide)
        have f1 : x1.natAbs < 10 ^ 100 := Nat.lt_of_lt_of_le e1 (by decide)
        have z1 : x1 ≠ 0 := by omega
        have z2 : x1.natAbs < 2 ^ 8000 := Nat.lt_of_lt_of_le xb1 (Nat.pow_le_pow_right (by decide) (by decide))
        have z0 : x0.natAbs < 2 ^ 8000 := Nat.lt_of_lt_of_le xb0 (Nat.pow_le_pow_right (by decide) (by decide))
        obtain ⟨neg, h, u, hc, hok, ho, hu⟩ := txt_ok x1p xg
        generalize et : txt x0 x1 = t at tlen hc
        refine Rd.cut (fun σ' H' => σ' = [some (.ref a), some (.ref st), some (.int (0 + (i : Int))), some (.ref p), some (TS t), v5, v6, v7, v8, v9] ∧ Stt H [] ((p, Is (.tup [.int x0, .int x1])) :: dled st c ms) H') ?_ ?_
        · walk_at "rd"
          refine ltxt_ask s4 (by walk_at "mem") x1p f0 f1 ?_
          rw [et]
          walk_at "rd"
          exact ⟨rfl, s4⟩
        · rintro σ' H5 ⟨rfl, s5⟩
          clear s4 s2
          refine Rd.cut (fun σ' H' => σ' = [some (.ref a), some (.ref st), some (.int (0 + (i : Int))), some (.ref p), some (TS t), v5, v6, v7, v8, v9] ∧ Stt H [] (dled st c ms) H') ?_ ?_
          · walk_at "rd"
            rename_i r H6 hr6 s6
            rw [nO_one x1p xg, nU_one x1p xg] at s6
            obtain ⟨o, g1, dx, rfl⟩ := s6.pick (a := r) (f := SpanO K x0 x1) (by walk_at "mem")
            refine ⟨r, dx, _, rfl, g1, over_text, ?_⟩
            walk_at "rd"
            refine text_ask c1 s6 (by walk_at "mem") x1p f0 f1 ?_
            rw [et]
            walk_at "rd"
            refine sameS_ask s6 (by omega) fun H7 s7 => ?_
            walk_at "rd"
            refine tried_ask s7 hc (by omega) (fun _ r2 H8 hr8 s8 => ?_) (fun z => absurd (hok.symm.trans z) (by decide))
            rw [ho, hu] at s8
            walk_at "rd"
            rename_i r3 H9 hr9 s9
            refine sameT_ask s9 (by walk_at "mem") (by walk_at "mem") (by decide) (by omega) z0 z2 fun H10 s10 => ?_
            walk_at "rd"
            exact ⟨rfl, s10.sub (by walk_at "subl")⟩
          · rintro σ' H6 ⟨rfl, s6⟩
            clear s5
            refine Rd.cut (fun σ' H' => ∃ (D : Addr) (ts : List (List Nat)) (v9 : Option V), σ' = [some (.ref a), some (.ref st), some (.int (0 + (i : Int))), some (.ref p), some (TS t), some (.ref D), v6, v7, v8, v9] ∧ (ts.length ≤ 3 ∧ ∀ z ∈ ts, z.length ≤ 60) ∧ H D = none ∧ Stt H [] ((D, Is (.lst (ts.map TS))) :: dled st c ms) H') ?_ ?_
            · walk_at "rd"
              refine Rd.lcG (walk_range (lo := 0) (n := Int.toNat 3)) s6 (fun j acc ex => ex = [] ∧ ∃ ts : List (List Nat), acc = ts.map TS ∧ ts.length = j ∧ ∀ z ∈ ts, z.length ≤ 60) ⟨rfl, [], rfl, rfl, fun _ h => nomatch h⟩ (fun _ _ _ _ _ _ => trivial) ?_ ?_
              · rintro D hD j x HA HB acc ex hj ⟨rfl, ts, rfl, hj2, hts⟩ hac s22 ⟨rfl, rfl⟩
                replace s22 : Stt H [] ((D, Is (.lst (ts.map TS))) :: dled st c ms) _ := s22
                walk_at "rd"
                refine bent_ask s22 (by walk_at "subl") hm (.inr hst) (by omega) fun t' H7 ht' s7 => ?_
                refine Rd.lcE s7 hD (by have : j < 3 := hj; omega) hac ⟨rfl, ts ++ [t'], by simp, by simp [hj2], fun z hz => ?_⟩
                rcases List.mem_append.mp hz with q | q
                · exact hts z q
                · rw [List.mem_singleton.mp q]; omega
              · rintro D HA acc ex hD ⟨rfl, ts, rfl, hj2, hts⟩ s22
                walk_at "rd"
                exact ⟨D, ts, _, rfl, ⟨by rw [hj2]; decide, hts⟩, hD, s22⟩
            · rintro σ' H7 ⟨D, ts, v9', rfl, ⟨hn3, hts⟩, hD, s7⟩
              clear s6
              walk_at "rd"
              rename_i q H8 hq s8
              refine Rd.cut (fun σ' H' => ∃ (ts : List (List Nat)) (v6 : Option V), σ' = [some (.ref a), some (.ref st), some (.int (0 + (i : Int))), some (.ref p), some (TS t), some (.ref D), v6, v7, v8, v9'] ∧ (ts.length ≤ 4 ∧ ∀ z ∈ ts, z.length ≤ 60) ∧ Stt H [] ((D, Is (.lst (ts.map TS))) :: dled st c ms) H') ?_ ?_
              · walk_at "rd"
                rename_i v H9 hv s9
                have hv2 : ∃ z, v = TS z ∧ z.length ≤ 10 := by
                  have hv3 : v ∈ ([[], [47], [45], [49, 47], [47, 50], [50, 47, 52], [45, 48], [48, 47, 53], [49, 47, 45, 50], [49, 47, 50, 47, 51], [43, 49], [49, 46, 53], [45, 32, 49], [49, 47, 48], [51, 47, 49]] : List (List Nat)).map TS := hv
                  obtain ⟨z, hz, e⟩ := List.mem_map.mp hv3
                  exact ⟨z, e.symm, (by decide : ∀ z ∈ ([[], [47], [45], [49, 47], [47, 50], [50, 47, 52], [45, 48], [48, 47, 53], [49, 47, 45, 50], [49, 47, 50, 47, 51], [43, 49], [49, 46, 53], [45, 32, 49], [49, 47, 48], [51, 47, 49]] : List (List Nat)), z.length ≤ 10) z hz⟩
                obtain ⟨z, rfl, hz⟩ := hv2
                refine Rd.app s9 (by walk_at "mem") (by rw [List.length_map]; omega) (.tail .head) (.inr hD) fun H10 s10 => ?_
                walk_at "rd"
                refine ⟨ts ++ [z], _, rfl, ⟨by simp; omega, fun y hy => ?_⟩, ?_⟩
                · rcases List.mem_append.mp hy with q | q
                  · exact hts y q
                  · rw [List.mem_singleton.mp q]; omega
                · rw [show (ts ++ [z]).map TS = ts.map TS ++ [TS z] by simp]
                  exact s10.sub (by walk_at "subl")
              · clear s7 s8 hts hn3
                rintro σ' H8 ⟨ts, v6', rfl, ⟨hn4, hts⟩, s8⟩
                walk_at "rd"
                refine Rd.loop (walk_list (xs := ts.map TS)) (fun j σ H' => (∃ v7 v8, σ = [some (.ref a), some (.ref st), some (.int (0 + (i : Int))), some (.ref p), some (TS t), some (.ref D), v6', v7, v8, v9']) ∧ Stt H [] ((D, Is (.lst (ts.map TS))) :: dled st c ms) H') ⟨⟨_, _, rfl⟩, s8⟩ (fun j σ H' _ hh => hh.2.sqL (by walk_at "mem")) ?_ ?_
                · rintro j x σ H9 H10 hj ⟨⟨v7', v8', rfl⟩, s9⟩ ⟨rfl, e3⟩
                  clear s8
                  obtain ⟨z, hz, rfl⟩ : ∃ z, z ∈ ts ∧ x = TS z := by
                    rw [List.getElem?_map] at e3
                    cases e4 : ts[j]? with
                    | none => rw [e4] at e3; cases e3
                    | some y => rw [e4] at e3; cases e3; exact ⟨y, List.mem_of_getElem? e4, rfl⟩
                  have lz := hts z hz
                  obtain ⟨neg2, h2, u2, hc2⟩ := cut_of z
                  walk_at "rd"
                  refine Rd.cut (fun σ' H' => ∃ (r : Addr) (fv : List V), σ' = [some (.ref a), some (.ref st), some (.int (0 + (i : Int))), some (.ref p), some (TS t), some (.ref D), v6', some (TS z), some (.ref r), v9'] ∧ ((okT neg2 h2 u2 = true ∧ fv = [TS madeS, .int (ovr neg2 h2), .int (und u2), TS z]) ∨ (okT neg2 h2 u2 = false ∧ fv = [TS textS, .int 1])) ∧ Stt H [] ((r, Is (.tup fv)) :: (D, Is (.lst (ts.map TS))) :: dled st c ms) H') ?_ ?_
                  · walk_at "rd"
                    refine tried_ask s9 hc2 (by omega) (fun ok r H11 hr s10 => ?_) (fun ok r H11 hr s10 => ?_)
                    · walk_at "rd"
                      exact ⟨r, _, rfl, .inl ⟨ok, rfl⟩, s10⟩
                    · walk_at "rd"
                      exact ⟨r, _, rfl, .inr ⟨ok, rfl⟩, s10⟩
                  · rintro σ' H11 ⟨r, fv, rfl, hfv, s11⟩
                    clear s9
                    rcases hfv with ⟨ok, rfl⟩ | ⟨ok, rfl⟩
                    · refine Rd.cut (fun σ' H' => σ' = [some (.ref a), some (.ref st), some (.int (0 + (i : Int))), some (.ref p), some (TS t), some (.ref D), v6', some (TS z), some (.ref r), v9'] ∧ Stt H [] ((r, Is (.tup [TS madeS, .int (ovr neg2 h2), .int (und u2), TS z])) :: (D, Is (.lst (ts.map TS))) :: dled st c ms) H') ?_ ?_
                      · walk_at "rd"
                        refine ist_ask s11 hc2 (by omega) fun H12 s12 => ?_
                        rw [ok]
                        walk_at "rd"
                        refine Rd.brI (congrArg V.bl (decide_eq_true rfl).symm) ?_
                        walk_at "rd"
                        exact ⟨rfl, s12⟩
                      · rintro σ' H12 ⟨rfl, s12⟩
                        walk_at "rd"
                        exact ⟨⟨_, _, rfl⟩, s12.sub (by walk_at "subl")⟩
                    · have nm : ¬ (TS textS = TS madeS) := fun e => by
                        have := strS_eq.mp e
                        revert this
                        decide
                      refine Rd.cut (fun σ' H' => σ' = [some (.ref a), some (.ref st), some (.int (0 + (i : Int))), some (.ref p), some (TS t), some (.ref D), v6', some (TS z), some (.ref r), v9'] ∧ Stt H [] ((r, Is (.tup [TS textS, .int 1])) :: (D, Is (.lst (ts.map TS))) :: dled st c ms) H') ?_ ?_
                      · walk_at "rd"
                        refine ist_ask s11 hc2 (by omega) fun H12 s12 => ?_
                        rw [ok]
                        walk_at "rd"
                        refine Rd.brI (congrArg V.bl (decide_eq_false nm).symm) ?_
                        walk_at "rd"
                        refine Rd.brJ nm ?_
                        walk_at "rd"
                        exact ⟨rfl, s12⟩
                      · rintro σ' H12 ⟨rfl, s12⟩
                        walk_at "rd"
                        refine Rd.brJ nm ?_
                        walk_at "rd"
                        rename_i r4 H13 hr4 s13
                        refine Rd.neD (.tup (s13.sqT (by walk_at "mem")) (.cons (.str _) (.cons (.int _) .nil))) (.tup (s13.sqT (by walk_at "mem")) (.cons (.str _) (.cons (.int _) .nil))) (by decide +kernel) (by decide +kernel) ?_
                        rw [show PyData.eqv (.tuple [.str (SX.S textS), .int 1]) (.tuple [.str (SX.S textS), .int 1]) = true by decide +kernel]
                        walk_at "rd"
                        exact ⟨⟨_, _, rfl⟩, s13.sub (by walk_at "subl")⟩
                · rintro σ H9 ⟨⟨v7', v8', rfl⟩, s9⟩
                  walk_at "rd"
                  exact ⟨_, _, _, _, _, _, _, _, rfl, s9.sub (by walk_at "subl")⟩
    · rintro σ H2 ⟨v2, v3, v4, v5, v6, v7, v8, v9, rfl, s2⟩
      walk_at "rd"
      exact k _
end

end
def loose0 : List Str := ["LoopError", "BadPart", "BadText", "DIGITS", "is_integer", "is_numeral", "numeral_value", "Span", "_halves", "_sum", "_difference", "_product", "_quotient", "_remainder", "_gap", "_law_fresh", "_law_fill", "_law_take", "_law_one", "_law_same", "_law_low", "_law_fraction", "_law_figure", "_law_text", "_law_is_figures", "_law_is_text", "_law_bent", "_law_tried"]
def loose : List Str := loose0
abbrev R : PySem.W.OpenRow := PySem.W.OpenLaw.row PySem.Challenge.rw_looptimes_k05_span_texts
abbrev hk : PySem.W.Hook := Lt.hookS 5 fa fs fn sn
def ob (s : PySem.W.SharedT) : He.AlD := Lt.obsSG 5 fa fs fn sn (HandSHeadRun.getT s)
theorem ob_eq (s : PySem.W.SharedT) : ob s = hk.obs s.abs := Lt.obsSG_eq (HandSHeadRun.getT_eq s)
theorem run (w : World) : HandSHeadRun.RunEqI R (PySem.W.view R.prog [0, 33]) hk ob 4000 loose w := by
  unfold HandSHeadRun.RunEqI
  kernel_rfl

end Law
open PySem PySem.W PySem.Calls PyProof.Rows
set_option maxRecDepth 100000 in
set_option maxHeartbeats 0 in
theorem PySem.Challenge.cw_looptimes_k05_span_texts_holds : PySem.Challenge.rw_looptimes_k05_span_texts.Holds := by
  w_on; o_law
  refine HandSHeadRun.head_imp (r := OpenLaw.row PySem.Challenge.rw_looptimes_k05_span_texts) (q := view (OpenLaw.row PySem.Challenge.rw_looptimes_k05_span_texts).prog [0, 33]) (H := Law.hk) (ob := Law.ob) (M := 4000) (loose := Law.loose) (d := HandSHeadRun.topDef (OpenLaw.row PySem.Challenge.rw_looptimes_k05_span_texts).prog 33) (kwd := []) Law.ob_eq
    Law.run (by kernel_rfl) (by kernel_rfl) (by kernel_rfl) (by rfl) (by first | assumption | decide +kernel) (by decide +kernel) ⟨rfl, rfl, rfl, rfl, rfl, by decide +kernel⟩ ?hw ?hc
  case hw => w_witness2
  case hc =>
    refine L2.walk_ofE (l := PySem.Challenge.rw_looptimes_k05_span_texts) (n := 63) (k := 8) (x := "_law_script") (CX := L2.CX0) rfl (by decide) (by kernel_rfl) ⟨rfl, by decide, by decide⟩ ?F (fun _ _ _ _ z => z)
    intro w mg fa h Y G hmg0
    obtain ⟨K, KX, c⟩ := Y
    have hmg : mg ("law" : PySem.Str) = some (.ref fa) := by
      have e : (HandSHeadRun.topDef (OpenLaw.row PySem.Challenge.rw_looptimes_k05_span_texts).prog 33).name = ("law" : PySem.Str) := by kernel_rfl
      rw [← e]
      exact hmg0
    obtain ⟨T⟩ := Law.txt_of KX G c
    have ea := hmg.symm.trans T.g_law
    cases ea
    have b : ∀ (s : Shared) (v : Value), BindsTo s T.fd_law ⟨[v], []⟩ [("_law_script", v)] := fun s v => L2.FunD.bindsA (ps := ["_law_script"]) T.F_law (fun _ _ _ _ _ _ us hl => match us, hl with | [_], _ => rfl) s [v] rfl
    exact ⟨K, T.fd_law, Law.spLaw K, KX, b, fun H a ns hl hO hS => ⟨a, ns, rfl, hS, hl, fun _ => rfl⟩, fun base _ _ => Law.ok_law T⟩

