import PyProof.Rows.All
import Wide.All
import OpenK.AllK
import Wide.FinOn
import Lean
import PyProof.EqAt
import PyProof.EqKinds
import PyProof.TupleCall
import PyProof.ZipIter
import PyProof.NeKinds
import PySem.Challenge.RW_mixposts_k32_whole_as_many_as_the_least
import PyProof.Logic
import PyProof.StationsW
import PyProof.ExcBaseAll.ValueError
import PyProof.ExcInit
import PyProof.ExcClass2
import PyProof.InstStoreFacts
import PyProof.ExcAttrAll.ValueError
import KE.KDictList
import PyProof.StrWalks
import PyProof.ConsumeWalk
import PyProof.EnumFor
import PyProof.EnumStmt
import PyProof.StrLawsIdx
import PyProof.SliceStr2
import PyProof.MeetsStr
import PyProof.FactsAll.str_5
import PyProof.StrBlockL
import PyProof.StrLawsTight
import PyProof.FitsReplace
import PyProof.Rows.StrItems
import KE.KIntText
import KE.KDictOf
import PyProof.AttrMissHeap
import KE.KDictSum
import PyProof.Rows.SortWalk
set_option Elab.async false
set_option linter.all false
set_option maxRecDepth 100000
set_option maxHeartbeats 4000000
set_option maxRecDepth 100000
/-! The head would lay a copy of each heap on the way, with a proof of its own that it is the same: some forty megabytes that the kernel does not need. Where a name is taken, it lays none. -/
theorem PySem.W.Fast.tw1061380248479640301 : True := trivial
theorem PySem.W.Fast.tw10798108755701196459 : True := trivial
theorem PySem.W.Fast.tw11107623780997989992 : True := trivial
theorem PySem.W.Fast.tw12017901488174946144 : True := trivial
theorem PySem.W.Fast.tw12917308614883458303 : True := trivial
theorem PySem.W.Fast.tw1351294653360307525 : True := trivial
theorem PySem.W.Fast.tw1399467169357398693 : True := trivial
theorem PySem.W.Fast.tw14225904364825223001 : True := trivial
theorem PySem.W.Fast.tw15021348530188501809 : True := trivial
theorem PySem.W.Fast.tw16029456533951425037 : True := trivial
theorem PySem.W.Fast.tw16811873553071822953 : True := trivial
theorem PySem.W.Fast.tw18378818092218189372 : True := trivial
theorem PySem.W.Fast.tw2069911207109056085 : True := trivial
theorem PySem.W.Fast.tw23111035580435963 : True := trivial
theorem PySem.W.Fast.tw3602927409606500652 : True := trivial
theorem PySem.W.Fast.tw3741701081826290628 : True := trivial
theorem PySem.W.Fast.tw4244748104744672436 : True := trivial
theorem PySem.W.Fast.tw6667522133841255861 : True := trivial
theorem PySem.W.Fast.tw7157993911913167187 : True := trivial
theorem PySem.W.Fast.tw8094953380313692527 : True := trivial
namespace L2
open PySem PySem.Spec PyProof.Rows
abbrev Key := Sum Int Str
def keyIs : Key → Value → Bool
  | .inl k, v => Value.isInt k v
  | .inr x, v => Value.isStrOf x v
def keyH (w : World) : Key → Int
  | .inl k => hashInt k
  | .inr x => hashStr w x
theorem keyIs_shape : ∀ {k : Key} {v : Value}, keyIs k v = true → (∃ i t, k = Sum.inl i ∧ v = Value.int i t) ∨ (∃ x t, k = Sum.inr x ∧ v = Value.str x t)
  | .inl i, v, h => by
    obtain ⟨t, e⟩ := Value.isInt_shape (k := i) (v := v) h
    exact .inl ⟨i, t, rfl, e⟩
  | .inr x, v, h => by
    obtain ⟨t, e⟩ := Value.isStrOf_shape (x := x) (v := v) h
    exact .inr ⟨x, t, rfl, e⟩
theorem keyIs_int (i : Int) (t : Tok) : keyIs (.inl i) (.int i t) = true := by simp [keyIs, Value.isInt]
theorem keyIs_str (x : Str) (t : Tok) : keyIs (.inr x) (.str x t) = true := by simp [keyIs, Value.isStrOf]
theorem key_ll (a b : Int) : decide ((Sum.inl a : Key) = Sum.inl b) = (a == b) := by
  by_cases e : a = b
  · subst e; simp
  · have h : ¬ (Sum.inl a : Key) = Sum.inl b := fun q => e (Sum.inl.inj q)
    rw [decide_eq_false h]
    exact (beq_eq_false_iff_ne.mpr e).symm
theorem key_rr (a b : Str) : decide ((Sum.inr a : Key) = Sum.inr b) = decide (a = b) := by
  by_cases e : a = b
  · subst e; simp
  · have h : ¬ (Sum.inr a : Key) = Sum.inr b := fun q => e (Sum.inr.inj q)
    rw [decide_eq_false h, decide_eq_false e]
theorem key_lr (a : Int) (b : Str) : decide ((Sum.inl a : Key) = Sum.inr b) = false := decide_eq_false (fun q => nomatch q)
theorem key_rl (a : Str) (b : Int) : decide ((Sum.inr a : Key) = Sum.inl b) = false := decide_eq_false (fun q => nomatch q)
def mixKind (prog : Program) (w : World) : PySem.KeyKind prog w Key where
  is := keyIs
  hash := keyH w
  inj := fun v a b ha hb => by
    rcases keyIs_shape ha with ⟨i, t, rfl, rfl⟩ | ⟨x, t, rfl, rfl⟩
    · rcases keyIs_shape hb with ⟨j, u, rfl, e⟩ | ⟨y, u, rfl, e⟩
      · injection e with e1 _; rw [e1]
      · exact nomatch e
    · rcases keyIs_shape hb with ⟨j, u, rfl, e⟩ | ⟨y, u, rfl, e⟩
      · exact nomatch e
      · injection e with e1 _; rw [e1]
  byValue := fun k v h => by
    rcases keyIs_shape h with ⟨i, t, rfl, rfl⟩ | ⟨x, t, rfl, rfl⟩ <;> rfl
  pyHash := fun hv h => by
    rcases keyIs_shape hv with ⟨i, t, rfl, rfl⟩ | ⟨x, t, rfl, rfl⟩
    · exact wpAny_pyHash_int h
    · exact wpAny_pyHash_str h
  eqBool := fun hu hv h => by
    rcases keyIs_shape hu with ⟨i, t, rfl, rfl⟩ | ⟨x, t, rfl, rfl⟩
    · rcases keyIs_shape hv with ⟨j, u, rfl, rfl⟩ | ⟨y, u, rfl, rfl⟩
      · rw [key_ll] at h; exact wpAny_eqBool_int h
      · rw [key_lr] at h; exact SeqAt.EqAt.int_str i t y u _ _ _ _ h
    · rcases keyIs_shape hv with ⟨j, u, rfl, rfl⟩ | ⟨y, u, rfl, rfl⟩
      · rw [key_rl] at h; exact SeqAt.EqAt.str_int x t j u _ _ _ _ h
      · rw [key_rr] at h; exact wpAny_eqBool_str h
  «strs» := fun k x t v h => by
    rcases keyIs_shape h with ⟨i, u, rfl, e⟩ | ⟨y, u, rfl, e⟩
    · exact nomatch e
    · injection e with e1 _
      subst e1
      cases v <;> rfl
theorem mixKind_int (prog : Program) (w : World) (i : Int) (t : Tok) : (mixKind prog w).is (.inl i) (.int i t) = true := keyIs_int i t
theorem mixKind_str (prog : Program) (w : World) (x : Str) (t : Tok) : (mixKind prog w).is (.inr x) (.str x t) = true := keyIs_str x t
end L2
namespace L2
open PySem PySem.Spec PyProof.Rows
inductive V where
  | non | bl (b : Bool) | int (i : Int) | str (x : Str) | byt (b : Array UInt8) | flt (b : UInt64) | ref (a : Addr) | ty (n : String)
  deriving DecidableEq
def RelV : V → Value → Prop
  | .non, u => u = Value.none
  | .bl b, u => u = Value.bool b
  | .int i, u => ∃ t, u = Value.int i t
  | .str x, u => ∃ t, u = Value.str x t
  | .byt b, u => ∃ t, u = Value.bytes b t
  | .flt b, u => ∃ t, u = Value.float b t
  | .ref a, u => u = Value.ref a
  | .ty n, u => u = Value.type n
abbrev Vals : List V → List Value → Prop := Paired RelV
theorem Vals.length {xs : List V} {us : List Value} (r : Vals xs us) : xs.length = us.length := Paired.length r
theorem Vals.get : ∀ {xs : List V} {us : List Value} {i : Nat} {x : V}, Vals xs us → xs[i]? = some x → ∃ u, us[i]? = some u ∧ RelV x u
  | _, _, _, _, .nil, e => by simp at e
  | _, _, 0, _, .cons r _, e => by simp at e; subst e; exact ⟨_, rfl, r⟩
  | _, _, i + 1, x, .cons _ t, e => by
    obtain ⟨u, h1, h2⟩ := Vals.get (i := i) (x := x) t (by simpa using e)
    exact ⟨u, by simpa using h1, h2⟩
theorem Vals.set {x : V} {u : Value} (r : RelV x u) : ∀ {xs : List V} {us : List Value} (i : Nat), Vals xs us → Vals (xs.set i x) (us.set i u)
  | _, _, _, .nil => .nil
  | _, _, 0, .cons _ t => .cons r t
  | _, _, i + 1, .cons q t => .cons q (Vals.set r i t)
theorem Vals.append : ∀ {xs ys : List V} {us ws : List Value}, Vals xs us → Vals ys ws → Vals (xs ++ ys) (us ++ ws)
  | _, _, _, _, .nil, s => s
  | _, _, _, _, .cons r t, s => .cons r (Vals.append t s)
theorem Vals.take : ∀ {xs : List V} {us : List Value} (n : Nat), Vals xs us → Vals (xs.take n) (us.take n)
  | _, _, 0, _ => .nil
  | _, _, _ + 1, .nil => .nil
  | _, _, n + 1, .cons r t => .cons r (Vals.take n t)
theorem Vals.drop : ∀ {xs : List V} {us : List Value} (n : Nat), Vals xs us → Vals (xs.drop n) (us.drop n)
  | _, _, 0, r => r
  | _, _, _ + 1, .nil => .nil
  | _, _, n + 1, .cons _ t => Vals.drop n t
theorem Vals.none_of : ∀ {xs : List V} {us : List Value} {i : Nat}, Vals xs us → xs[i]? = none → us[i]? = none := fun {xs us i} r e => by
  have h1 := r.length
  have h2 : xs.length ≤ i := List.getElem?_eq_none_iff.mp e
  exact List.getElem?_eq_none_iff.mpr (by omega)
def RelO : Option V → Option Value → Prop
  | some v, some u => RelV v u
  | none, none => True
  | _, _ => False
def KV {κ : Type} : List (κ × V) → List (κ × Value) → Prop := Paired fun (p : κ × V) (q : κ × Value) => p.1 = q.1 ∧ RelV p.2 q.2
def kV : Key → V
  | .inl i => .int i
  | .inr x => .str x
inductive HO where
  | lst (xs : List V)
  | tup (xs : List V)
  | dK (kvs : List (Key × V)) | dT (kvs : List (List Key × V))
  | set (S : Int → Bool) (n : Nat)
  | ins (C dx : Addr) (fs : List (Str × V))
  | own (x : Addr)
  | xd (fs : List (Str × V))
  | met (f x : Addr)
  | rng (lo hi : Int)
  | frz (o : Obj) (u : HO)
  | tbl (ps : Array Value)
  | ext (φ : Heap → Prop)
abbrev Hp := Addr → Option HO
def upd (H : Hp) (a : Addr) (o : HO) : Hp := fun b => if b = a then some o else H b
theorem upd_same {H : Hp} {a : Addr} {o : HO} : upd H a o a = some o := by unfold upd; rw [if_pos rfl]
theorem upd_ne {H : Hp} {a b : Addr} {o : HO} (h : b ≠ a) : upd H a o b = H b := by unfold upd; rw [if_neg h]
theorem upd_upd {H : Hp} {a : Addr} {o u : HO} : upd (upd H a o) a u = upd H a u := by
  funext b; unfold upd; split <;> rfl
theorem ne_of {H : Hp} {a b : Addr} {o u : HO} (h : H a = some o) (h' : H b = some u) (d : o ≠ u) : a ≠ b := by
  intro e; subst e; rw [h] at h'; exact d (Option.some.inj h')
theorem ne_of_none {H : Hp} {a b : Addr} {o : HO} (h : H a = some o) (h' : H b = none) : a ≠ b := by
  intro e; subst e; rw [h] at h'; cases h'
section
variable (P : Program) (w : World)
def ObjOk (H : Hp) (h : Heap) (a : Addr) : HO → Prop
  | .lst xs => xs.length ≤ sizeLine ∧ ∃ (its : List Value) (n : Nat), Vals xs its ∧ h.get? a = some { cls := .type "list", data := .seq its.toArray n }
  | .tup xs => xs.length ≤ sizeLine ∧ ∃ its : List Value, Vals xs its ∧ IsTup h a its.toArray
  | .dK kvs => kvs.length ≤ sizeLine ∧ (a == sysModules) = false ∧ ∃ vs, KV kvs vs ∧ h.DictOf (mixKind P w) a vs
  | .dT kvs => kvs.length ≤ sizeLine ∧ (a == sysModules) = false ∧ ∃ xs : List (List Key × Addr × Value),
      Paired (fun (p : List Key × V) (q : List Key × Addr × Value) => p.1 = q.1 ∧ H q.2.1 = some (.tup (p.1.map kV)) ∧ RelV p.2 q.2.2) kvs xs ∧
      ∃ o es ep, h.get? a = some o ∧ o.ExactDict ∧ o.data = .dict es ep ∧ es.toList = xs.map (entryOfKey (tupleKind (mixKind P w))) ∧ (xs.map (·.1)).Nodup
  | .set S n => h.SetOf (intKind P w) a S n
  | .ins C dx fs => H dx = some (.own a) ∧ fs.length ≤ 1000 ∧ dx ≠ a ∧ h.get? a = some (PySem.W.instObj C dx) ∧
      ∃ mA, h.Ns1 dx mA ∧ (∀ f, RelO (fs.lookup f) (mA f)) ∧ PySem.Within mA (fs.map (·.1))
  | .own _ => ∃ o, h.get? a = some o
  | .xd fs => ∃ mA, h.Ns1 a mA ∧ ∀ f, RelO (fs.lookup f) (mA f)
  | .rng lo hi => ∃ t u v, h.get? a = some { cls := .type "range", data := .fields #[.int lo t, .int hi u, .int 1 v] }
  | .frz o u => h.get? a = some o ∧ ObjOk H h a u
  | .tbl ps => h.get? a = some { cls := .none, data := .fields ps }
  | .met f x => h.get? a = some (PySem.W.methodObj (.ref f) (.ref x))
  | .ext φ => φ h ∧ (∃ o, h.get? a = some o) ∧ ∀ h1 h2 : Heap, φ h1 → (∀ o, h1.get? a = some o → h2.get? a = some o) → φ h2
def HOk (H : Hp) (h : Heap) : Prop := ∀ a o, H a = some o → ObjOk P w H h a o
end
section
variable {P : Program} {w : World} {H H' : Hp} {h h' : Heap} {a : Addr} {o : HO}
theorem ObjOk.lt (x : ObjOk P w H h a o) : a < h.objs.size := by
  cases o with
  | lst xs => obtain ⟨_, _, _, _, e⟩ := x; exact Heap.lt_size e
  | tup xs => obtain ⟨_, _, _, p⟩ := x; exact p.lt
  | dK kvs => obtain ⟨_, _, _, _, o, _, _, e, _⟩ := x; exact Heap.lt_size e
  | dT kvs => obtain ⟨_, _, _, _, o, _, _, e, _⟩ := x; exact Heap.lt_size e
  | set S n => obtain ⟨o, _, _, _, e, _⟩ := x; exact Heap.lt_size e
  | ins C dx fs => obtain ⟨_, _, _, e, _⟩ := x; exact Heap.lt_size e
  | own y => obtain ⟨_, e⟩ := x; exact Heap.lt_size e
  | xd fs => obtain ⟨_, ⟨_, _, _, e, _⟩, _⟩ := x; exact Heap.lt_size e
  | rng lo hi => obtain ⟨_, _, _, e⟩ := x; exact Heap.lt_size e
  | frz ob u => obtain ⟨e, _⟩ := x; exact Heap.lt_size e
  | tbl ps => exact Heap.lt_size (show h.get? a = some _ from x)
  | met f y => exact Heap.lt_size (show h.get? a = some _ from x)
  | ext φ => obtain ⟨_, ⟨_, e⟩, _⟩ := x; exact Heap.lt_size e
theorem Paired.mapP {α β : Type} {F G : α → β → Prop} : ∀ {l₁ : List α} {l₂ : List β}, Paired F l₁ l₂ → (∀ a b, F a b → G a b) → Paired G l₁ l₂
  | _, _, .nil, _ => .nil
  | _, _, .cons r t, f => .cons (f _ _ r) (Paired.mapP t f)
theorem Paired.imp' {α β : Type} {F G : α → β → Prop} (f : ∀ a b, F a b → G a b) {l₁ : List α} {l₂ : List β} (r : Paired F l₁ l₂) : Paired G l₁ l₂ := Paired.mapP r f
theorem ObjOk.stay (x : ObjOk P w H h a o) (k : ∀ b u, (b = a ∨ H b = some (.own a)) → h.get? b = some u → h'.get? b = some u)
    (ho : ∀ b, H b = some (.own a) → H' b = some (.own a)) (ht : ∀ b xs, H b = some (.tup xs) → H' b = some (.tup xs)) : ObjOk P w H' h' a o := by
  induction o with
  | lst xs => obtain ⟨z, its, n, r, e⟩ := x; exact ⟨z, its, n, r, k _ _ (.inl rfl) e⟩
  | tup xs => obtain ⟨z, its, r, ob, e, c⟩ := x; exact ⟨z, its, r, ob, k _ _ (.inl rfl) e, c⟩
  | dK kvs => obtain ⟨z, y, vs, r, ob, es, ep, e, c⟩ := x; exact ⟨z, y, vs, r, ob, es, ep, k _ _ (.inl rfl) e, c⟩
  | dT kvs =>
    obtain ⟨z, y, xs, r, ob, es, ep, e, c⟩ := x
    exact ⟨z, y, xs, Paired.mapP r fun p q z => ⟨z.1, ht _ _ z.2.1, z.2.2⟩, ob, es, ep, k _ _ (.inl rfl) e, c⟩
  | set S n => obtain ⟨ob, es, ep, t, e, c⟩ := x; exact ⟨ob, es, ep, t, k _ _ (.inl rfl) e, c⟩
  | ins C dx fs =>
    obtain ⟨d, z, ne, e, mA, ⟨od, es, ep, e2, c⟩, r⟩ := x
    exact ⟨ho _ d, z, ne, k _ _ (.inl rfl) e, mA, ⟨od, es, ep, k _ _ (.inr d) e2, c⟩, r⟩
  | own y => obtain ⟨ob, e⟩ := x; exact ⟨ob, k _ _ (.inl rfl) e⟩
  | xd fs => obtain ⟨mA, ⟨od, es, ep, e, c⟩, r⟩ := x; exact ⟨mA, ⟨od, es, ep, k _ _ (.inl rfl) e, c⟩, r⟩
  | rng lo hi => obtain ⟨t, u, v, e⟩ := x; exact ⟨t, u, v, k _ _ (.inl rfl) e⟩
  | frz ob u ih => obtain ⟨e, q⟩ := x; exact ⟨k _ _ (.inl rfl) e, ih q⟩
  | tbl ps =>
    have e : h.get? a = some { cls := .none, data := .fields ps } := x
    show h'.get? a = some { cls := .none, data := .fields ps }
    exact k a _ (.inl rfl) e
  | met f y =>
    have e : h.get? a = some (PySem.W.methodObj (.ref f) (.ref y)) := x
    show h'.get? a = some (PySem.W.methodObj (.ref f) (.ref y))
    exact k a _ (.inl rfl) e
  | ext φ => obtain ⟨p, ⟨o, e⟩, st⟩ := x; exact ⟨st _ _ p fun o q => k _ _ (.inl rfl) q, ⟨o, k _ _ (.inl rfl) e⟩, st⟩
theorem HOk.lt (x : HOk P w H h) (e : H a = some o) : a < h.objs.size := (x a o e).lt
theorem HOk.fresh (x : HOk P w H h) (e : h.objs.size ≤ a) : H a = none := by
  cases q : H a with
  | none => rfl
  | some u => exact absurd (Nat.lt_of_lt_of_le (x.lt q) e) (Nat.lt_irrefl _)
theorem HOk.kept (x : HOk P w H h) (k : ∀ b u, h.get? b = some u → h'.get? b = some u) : HOk P w H h' := fun a o e =>
  (x a o e).stay (fun b u _ q => k b u q) (fun _ q => q) fun _ _ q => q
theorem HOk.laid (x : HOk P w H h) (k : ∀ b u, h.get? b = some u → h'.get? b = some u) (hp : h.objs.size ≤ a) (new : ObjOk P w (upd H a o) h' a o) : HOk P w (upd H a o) h' := fun b u e => by
  have hn := x.fresh hp
  by_cases hb : b = a
  · subst hb; rw [upd_same] at e; cases e; exact new
  · rw [upd_ne hb] at e
    exact (x b u e).stay (fun c v _ q => k c v q) (fun c q => by rw [upd_ne (ne_of_none q hn)]; exact q) fun c xs q => by rw [upd_ne (ne_of_none q hn)]; exact q
end
def Rd (H : Hp) (a : Addr) (u : HO) : Prop := H a = some u ∨ ∃ o, H a = some (.frz o u)
theorem Rd.of {H : Hp} {a : Addr} {u : HO} (h : H a = some u) : Rd H a u := .inl h
theorem Rd.ok {P : Program} {w : World} {H : Hp} {h : Heap} {a : Addr} {u : HO} (r : Rd H a u) (x : HOk P w H h) : ObjOk P w H h a u := by
  rcases r with r | ⟨o, r⟩
  · exact x a u r
  · obtain ⟨_, q⟩ := x a _ r
    exact q
def Mut : Option HO → Prop
  | some (.lst _) => True
  | some (.dK _) => True
  | some (.dT _) => True
  | some (.set _ _) => True
  | some (.ins _ _ _) => True
  | some (.ext _) => True
  | _ => False
section
variable {P : Program} {w : World} {H : Hp} {h h' : Heap} {x e : Addr} {o' : HO}
theorem HOk.write (ok : HOk P w H h) (mu : Mut (H x)) (he : e = x ∨ H e = some (.own x)) (k : ∀ b u, b ≠ e → h.get? b = some u → h'.get? b = some u) (heo : ∃ u, h'.get? e = some u)
    (new : ObjOk P w (upd H x o') h' x o') : HOk P w (upd H x o') h' := fun b u q => by
  have nown : ∀ c y, H c = some (.own y) → c ≠ x := fun c y r z => by subst z; rw [r] at mu; exact mu
  have ntup : ∀ c xs, H c = some (.tup xs) → c ≠ x := fun c xs r z => by subst z; rw [r] at mu; exact mu
  by_cases hb : b = x
  · subst hb; rw [upd_same] at q; cases q; exact new
  · rw [upd_ne hb] at q
    by_cases hbe : b = e
    · have q' : H b = some (.own x) := by
        rcases he with z | z
        · exact absurd (hbe.trans z) hb
        · rw [hbe]; exact z
      rw [q] at q'; cases q'
      obtain ⟨v, hv⟩ := heo
      exact ⟨v, by rw [hbe]; exact hv⟩
    · refine (ok b u q).stay (fun c v hc r => k c v ?_ r) (fun c r => by rw [upd_ne (nown c b r)]; exact r) fun c xs r => by rw [upd_ne (ntup c xs r)]; exact r
      rcases hc with rfl | hc
      · exact hbe
      · rintro rfl
        rcases he with z | z
        · exact nown c b hc z
        · rw [hc] at z; cases z; exact hb rfl
end
structure Un (fs ex : List Addr) (H H' : Hp) (h h' : Heap) : Prop where
  keep : ∀ b o, h.get? b = some o → H b = none → b ∉ fs → b ∉ ex → h'.get? b = some o
  slot : ∀ b o, h.get? b = some o → H b = none → b ∈ fs → b ∉ ex → ∃ sl, h'.get? b = some { o with slots := sl }
  free : ∀ b o, h.get? b = some o → H b = none → b ∉ ex → H' b = none
  there : ∀ b o, h.get? b = some o → b ∉ ex → ∃ o', h'.get? b = some o'
  tups : ∀ b xs, H b = some (.tup xs) → H' b = some (.tup xs)
  frzs : ∀ b o u, H b = some (.frz o u) → H' b = some (.frz o u)
  tbls : ∀ b ps, H b = some (.tbl ps) → ∃ more, H' b = some (.tbl (ps ++ more))
section
variable {fs fs' ex ex' : List Addr} {H H1 H2 : Hp} {h h1 h2 h' : Heap} {a x e : Addr} {o : HO}
theorem Un.any (u : Un fs ex H H1 h h1) {b : Addr} {ob : Obj} (q : h.get? b = some ob) (n : H b = none) (hx : b ∉ ex) : ∃ sl, h1.get? b = some { ob with slots := sl } := by
  by_cases hb : b ∈ fs
  · exact u.slot b ob q n hb hx
  · exact ⟨ob.slots, u.keep b ob q n hb hx⟩
theorem Un.trans (a : Un fs ex H H1 h h1) (b : Un fs ex H1 H2 h1 h2) : Un fs ex H H2 h h2 where
  keep := fun c ob q n hc hx => b.keep c ob (a.keep c ob q n hc hx) (a.free c ob q n hx) hc hx
  slot := fun c ob q n hc hx => by
    obtain ⟨sl, e1⟩ := a.slot c ob q n hc hx
    obtain ⟨sl', e2⟩ := b.slot c _ e1 (a.free c ob q n hx) hc hx
    exact ⟨sl', e2⟩
  free := fun c ob q n hx => by
    obtain ⟨o', e1⟩ := a.there c ob q hx
    exact b.free c o' e1 (a.free c ob q n hx) hx
  there := fun c ob q hx => by
    obtain ⟨o', e1⟩ := a.there c ob q hx
    exact b.there c o' e1 hx
  tups := fun c xs q => b.tups c xs (a.tups c xs q)
  frzs := fun c ob xs q => b.frzs c ob xs (a.frzs c ob xs q)
  tbls := fun c ps q => by
    obtain ⟨m1, e1⟩ := a.tbls c ps q
    obtain ⟨m2, e2⟩ := b.tbls c _ e1
    exact ⟨m1 ++ m2, by rw [e2, Array.append_assoc]⟩
theorem Un.kept (k : ∀ b u, h.get? b = some u → h'.get? b = some u) : Un fs ex H H h h' :=
  ⟨fun b ob q _ _ _ => k b ob q, fun b ob q _ _ _ => ⟨ob.slots, k b ob q⟩, fun _ _ _ n _ => n, fun b ob q _ => ⟨ob, k b ob q⟩, fun _ _ q => q, fun _ _ _ q => q, fun _ ps q => ⟨#[], by rw [q]; simp⟩⟩
theorem Un.refl : Un fs ex H H h h := Un.kept fun _ _ q => q
theorem Un.laid (k : ∀ b u, h.get? b = some u → h'.get? b = some u) (hp : h.objs.size ≤ a) (hn : H a = none) : Un fs ex H (upd H a o) h h' where
  keep := fun b u q _ _ _ => k b u q
  slot := fun b u q _ _ _ => ⟨u.slots, k b u q⟩
  free := fun b u q n _ => by rw [upd_ne (Nat.ne_of_lt (Nat.lt_of_lt_of_le (Heap.lt_size q) hp))]; exact n
  there := fun b u q _ => ⟨u, k b u q⟩
  tups := fun b xs q => by rw [upd_ne (ne_of_none q hn)]; exact q
  frzs := fun b u xs q => by rw [upd_ne (ne_of_none q hn)]; exact q
  tbls := fun b ps q => ⟨#[], by rw [upd_ne (ne_of_none q hn), q]; simp⟩
theorem Un.write (mu : Mut (H x)) (he : e = x ∨ H e = some (.own x)) (k : ∀ b u, b ≠ e → h.get? b = some u → h'.get? b = some u) (heo : ∃ u, h'.get? e = some u) : Un fs ex H (upd H x o) h h' := by
  have hx : ∀ b, H b = none → b ≠ x := fun b n z => by subst z; rw [n] at mu; exact mu
  have hb : ∀ b, H b = none → b ≠ e := fun b n z => by
    subst z
    rcases he with r | r
    · exact hx b n r
    · rw [n] at r; cases r
  have hm : ∀ b u, H b = some u → ¬ Mut (some u) → b ≠ x := fun b u q nm z => by subst z; rw [q] at mu; exact nm mu
  refine ⟨fun b u q n _ _ => k b u (hb b n) q, fun b u q n _ _ => ⟨u.slots, k b u (hb b n) q⟩, fun b u q n _ => by rw [upd_ne (hx b n)]; exact n, fun b u q _ => ?_,
    fun b xs q => by rw [upd_ne (hm b _ q fun z => z)]; exact q, fun b u xs q => by rw [upd_ne (hm b _ q fun z => z)]; exact q, fun b ps q => ⟨#[], by rw [upd_ne (hm b _ q fun z => z), q]; simp⟩⟩
  by_cases hbe : b = e
  · subst hbe; exact heo
  · exact ⟨u, k b u hbe q⟩
theorem Un.mono (u : Un fs ex H H1 h h1) (hs : ∀ b ∈ fs, b ∈ fs') (hx : ∀ b ∈ ex, b ∈ ex') : Un fs' ex' H H1 h h1 :=
  ⟨fun b ob q n hb he => u.keep b ob q n (fun z => hb (hs b z)) fun z => he (hx b z), fun _ _ q n _ he => u.any q n fun z => he (hx _ z), fun b ob q n he => u.free b ob q n fun z => he (hx b z), fun b ob q he => u.there b ob q fun z => he (hx b z), u.tups, u.frzs, u.tbls⟩
end
def trk (h : Heap) (H : Hp) : List Addr := (List.range h.objs.size).filter fun a => (H a).isSome
def hidT (h : Heap) (H : Hp) : Heap := PySem.W.hideAll h (trk h H)
theorem hidT_size (h : Heap) (H : Hp) : (hidT h H).objs.size = h.objs.size := PySem.W.hideAll_size _ _
theorem hidT_get {h : Heap} {H : Hp} {b : Addr} {o : Obj} (e : h.get? b = some o) (n : H b = none) : (hidT h H).get? b = some o :=
  PySem.W.hideAll_get _ e fun hm => by
    have q : (H b).isSome = true := (List.mem_filter.mp hm).2
    rw [n] at q; simp at q
theorem of_hidT {h : Heap} {H : Hp} {b : Addr} {o : Obj} (e : (hidT h H).get? b = some o) : h.get? b = some o ∧ H b = none := by
  have e' : h.get? b = some o := PySem.W.of_hideAll (trk h H) e
  refine ⟨e', ?_⟩
  cases q : H b with
  | none => rfl
  | some x =>
    have hm : b ∈ trk h H := List.mem_filter.mpr ⟨List.mem_range.mpr (Heap.lt_size e'), by simp [q]⟩
    have z : (hidT h H).get? b = none := PySem.W.hideAll_none (trk h H) hm
    rw [z] at e; cases e
def allNews (g h : Heap) (L : Addr) : List (Addr × Obj) := (List.range h.objs.size).filterMap fun a => if a = L ∨ (g.get? a).isSome = true then none else (h.get? a).map fun o => (a, o)
def rest (g h : Heap) (L d : Addr) : List (Addr × Obj) := (allNews g h L).filter fun p => decide (p.1 ≠ d)
end L2
namespace L2
open PySem PySem.Spec PyProof.Rows
structure Mod (K : PySem.W.Frag) (mg : Str → Option Value) (base : Heap) : Prop where
  kin : K.In base
  glob : base.Ns mainGlobals mg
  blt : ∃ mb, base.Ns builtinsNs mb ∧ ∀ x : Str, x ≠ "__name__" → mb x = bootBuiltins x
  nolimit : base.NoLimit
structure Cx where
  prog : Program
  w : World
  K : PySem.W.Frag
  mg : Str → Option Value
  base : Heap
  A : Around
  N : List Str
  s₀ : Shared
  H₀ : Hp
  env : Env
  outer : List Env
  stack : List Env
  ex : List Addr
  fn : Str → Bool
  calm : Bool
  pn : List (Addr × Obj)
  xe : Value → Shared → Prop
def frs (l : List Env) : List Addr := l.filterMap (·.frame)
abbrev Cx.fs (X : Cx) : List Addr := frs X.outer
def Vis (sc : Scope) (x : Str) : Prop := sc.names.lookup x = some .local ∨ sc.names.lookup x = some .cell ∨ sc.names.lookup x = some .free
def Loc (sc : Scope) (x : Str) : Prop := sc.names.lookup x = some .local ∨ sc.names.lookup x = some .cell
def Look (env : Env) (h : Heap) (m : Str → Option Value) (x : Str) (u : Value) : Prop :=
  (env.kindOf x = some .local ∧ m x = some u) ∨ ((env.kindOf x = some .cell ∨ env.kindOf x = some .free) ∧ ∃ c, env.cells.lookup x = some c ∧ h.IsCell c (some u))
structure Cx.Ok (X : Cx) : Prop where
  mod : Mod X.K X.mg X.base
  kind : X.env.scope.kind = .function
  glob : X.env.globals = mainGlobals
  blt : X.env.builtins = builtinsNs
  above : X.s₀.heap.objs.size ≤ X.env.locals
  inj : ∀ x y c, X.env.cells.lookup x = some c → X.env.cells.lookup y = some c → x = y
  has : ∀ x, (X.env.kindOf x = some .cell ∨ X.env.kindOf x = some .free) → ∃ c, X.env.cells.lookup x = some c
  cab : ∀ x c, X.fn x = true → X.env.cells.lookup x = some c → X.s₀.heap.objs.size ≤ c
  hd : X.calm = true → X.A.handled = none
  frames : X.A.frames = some X.stack
  stk : X.stack = X.outer ∨ (X.stack = X.env :: X.outer ∧ X.env.frame = some X.env.locals)
  exf : ∀ b ∈ X.ex, b ≠ X.env.locals ∧ ∀ x c, X.env.cells.lookup x = some c → c ≠ b
  bs : ∀ b o, X.base.get? b = some o → X.s₀.heap.get? b = some o ∧ X.H₀ b = none
  bsz : X.base.objs.size ≤ X.s₀.heap.objs.size
  noex : ∀ b o, X.base.get? b = some o → b ∉ X.ex
  exfs : ∀ b ∈ X.ex, b ∉ X.fs
  funs : X.s₀.heap.FunFrames X.base X.outer
  frf : ∀ b ∈ X.fs, X.H₀ b = none
structure Inv (X : Cx) (pins : List (Addr × Obj)) (σ : List (Option V)) (H : Hp) (s : Shared) : Prop where
  ok : X.Ok
  os : s.os = X.s₀.os
  bare : AllBare s.gens
  base : Un X.fs X.ex X.H₀ H X.s₀.heap s.heap
  loc : ∃ m, s.heap.Ns X.env.locals m ∧ ∀ (i : Nat) (x : Str) (v : V), X.N[i]? = some x → σ[i]? = some (some v) → Vis X.env.scope x → ∃ u, RelV v u ∧ Look X.env s.heap m x u
  cell : ∀ x c, X.env.cells.lookup x = some c → ∃ v, s.heap.IsCell c v
  free : H X.env.locals = none
  freeC : ∀ x c, X.env.cells.lookup x = some c → H c = none
  pin : ∀ p ∈ X.pn ++ pins, s.heap.get? p.1 = some p.2 ∧ H p.1 = none ∧ p.1 ≠ X.env.locals ∧ p.1 ∉ X.fs ∧ ∀ v, p.2.data ≠ .cell v
  hok : HOk X.prog X.w H s.heap
  len : σ.length = X.N.length
section
variable {X : Cx} {pins : List (Addr × Obj)} {σ : List (Option V)} {H H' : Hp} {s : Shared} {h' : Heap}
theorem Cx.Ok.nofr (ok : X.Ok) {b : Addr} {o : Obj} (e : X.base.get? b = some o) : b ∉ X.fs := fun hb => by
  have := (ok.funs.mem hb).1
  rw [e] at this; cases this
theorem Inv.bs (I : Inv X pins σ H s) : ∀ b o, X.base.get? b = some o → s.heap.get? b = some o ∧ H b = none := fun b o e =>
  ⟨I.base.keep b o (I.ok.bs b o e).1 (I.ok.bs b o e).2 (I.ok.nofr e) (I.ok.noex b o e), I.base.free b o (I.ok.bs b o e).1 (I.ok.bs b o e).2 (I.ok.noex b o e)⟩
theorem Inv.bk (I : Inv X pins σ H s) : ∀ b o, X.base.get? b = some o → s.heap.get? b = some o := fun b o e => (I.bs b o e).1
theorem Inv.mod (I : Inv X pins σ H s) : Mod X.K X.mg X.base := I.ok.mod
theorem Inv.kIn (I : Inv X pins σ H s) : X.K.In s.heap := I.ok.mod.kin.keeps I.bk
theorem Inv.nolimit (I : Inv X pins σ H s) : s.heap.NoLimit := I.ok.mod.nolimit.keeps I.bk
theorem Inv.lt (I : Inv X pins σ H s) : X.env.locals < s.heap.objs.size := let ⟨_, hn, _⟩ := I.loc; hn.lt
theorem Inv.sz (I : Inv X pins σ H s) : X.s₀.heap.objs.size ≤ s.heap.objs.size := Nat.le_trans I.ok.above (Nat.le_of_lt I.lt)
theorem Inv.nofs (I : Inv X pins σ H s) {a : Addr} (h : s.heap.objs.size ≤ a) : a ∉ X.fs := fun hb => by
  obtain ⟨_, o, ho, _⟩ := I.ok.funs.mem hb
  exact absurd (Nat.lt_of_lt_of_le (Heap.lt_size ho) (Nat.le_trans I.sz h)) (Nat.lt_irrefl _)
theorem Inv.cne (I : Inv X pins σ H s) : ∀ x c, X.env.cells.lookup x = some c → c ≠ X.env.locals := fun x c e z => by
  obtain ⟨v, o, ho, hd⟩ := I.cell x c e
  obtain ⟨m, ⟨o', es, ep, ho', hd', _⟩, _⟩ := I.loc
  rw [z, ho'] at ho; cases ho; rw [hd'] at hd; cases hd
theorem Inv.funs (I : Inv X pins σ H s) : s.heap.FunFrames X.base X.outer := by
  have all : ∀ (l : List Env), (∀ b ∈ frs l, b ∈ X.fs) → X.s₀.heap.FunFrames X.base l → s.heap.FunFrames X.base l := by
    intro l
    induction l with
    | nil => intro _ _; trivial
    | cons env r ih =>
      intro hs hl
      obtain ⟨hk, ⟨L, o, hf, hn, ho, hd⟩, hr⟩ := hl
      have hL : L ∈ X.fs := hs L (by unfold frs; rw [List.filterMap_cons, hf]; exact List.mem_cons_self)
      obtain ⟨sl, e⟩ := I.base.slot L o ho (I.ok.frf L hL) hL fun z => I.ok.exfs L z hL
      exact ⟨hk, ⟨L, _, hf, hn, e, hd⟩, ih (fun b hb => hs b (by unfold frs; rw [List.filterMap_cons, hf]; exact List.mem_cons_of_mem _ hb)) hr⟩
  exact all X.outer (fun _ hb => hb) I.ok.funs
theorem Inv.stack (I : Inv X pins σ H s) : s.heap.FunFrames X.base X.stack := by
  rcases I.ok.stk with e | ⟨e, hf⟩
  · rw [e]; exact I.funs
  · rw [e]
    obtain ⟨m, hn, _⟩ := I.loc
    refine .cons (by rw [I.ok.kind]; decide) hf hn ?_ I.funs
    exact Heap.get?_none_of_le (Nat.le_trans I.ok.bsz I.ok.above)
theorem Inv.stkSub (I : Inv X pins σ H s) : ∀ b ∈ frs X.stack, b ∈ X.env.locals :: X.fs := fun b hb => by
  rcases I.ok.stk with e | ⟨e, hf⟩
  · rw [e] at hb; exact List.mem_cons_of_mem _ hb
  · rw [e] at hb
    unfold frs at hb
    rw [List.filterMap_cons, hf] at hb
    exact hb
theorem Inv.stkFree (I : Inv X pins σ H s) : ∀ b ∈ frs X.stack, H b = none := fun b hb => by
  rcases List.mem_cons.mp (I.stkSub b hb) with e | hb
  · rw [e]; exact I.free
  · obtain ⟨_, o, ho, _⟩ := I.ok.funs.mem hb
    exact I.base.free b o ho (I.ok.frf b hb) fun z => I.ok.exfs b z hb
theorem Inv.step {g' : Array GenState} {t' : Nat} {d' : Drawn} {ch : List Addr} (I : Inv X pins σ H s)
    (hch : ∀ b ∈ ch, (b ∈ X.ex ∨ X.s₀.heap.objs.size ≤ b) ∧ b ≠ X.env.locals ∧ (∀ x c, X.env.cells.lookup x = some c → c ≠ b) ∧ ∀ p ∈ X.pn ++ pins, p.1 ≠ b)
    (keep : ∀ b o, b ≠ X.env.locals → b ∉ X.fs → b ∉ ch → s.heap.get? b = some o → H b = none → h'.get? b = some o)
    (slot : ∀ b o, b ≠ X.env.locals → b ∈ X.fs → b ∉ ch → s.heap.get? b = some o → H b = none → ∃ sl, h'.get? b = some { o with slots := sl }) (free : ∀ b o, b ∉ ch → s.heap.get? b = some o → H b = none → H' b = none)
    (there : ∀ b o, b ∉ ch → s.heap.get? b = some o → ∃ o', h'.get? b = some o')
    (tups : ∀ b xs, H b = some (.tup xs) → H' b = some (.tup xs)) (frzs : ∀ b o u, H b = some (.frz o u) → H' b = some (.frz o u)) (tbls : ∀ b ps, H b = some (.tbl ps) → ∃ more, H' b = some (.tbl (ps ++ more)))
    (ns : ∀ m, s.heap.Ns X.env.locals m → h'.Ns X.env.locals m) (hok : HOk X.prog X.w H' h') (hg : AllBare g') :
    Inv X pins σ H' { s with heap := h', gens := g', drawn := d', toks := t' } := by
  have neL : ∀ b o, X.s₀.heap.get? b = some o → b ≠ X.env.locals := fun b o e => Nat.ne_of_lt (Nat.lt_of_lt_of_le (Heap.lt_size e) I.ok.above)
  have neC : ∀ b o, X.s₀.heap.get? b = some o → b ∉ X.ex → b ∉ ch := fun b o e hx hb => by
    rcases (hch b hb).1 with z | z
    · exact hx z
    · exact absurd (Nat.lt_of_lt_of_le (Heap.lt_size e) z) (Nat.lt_irrefl _)
  have cellK : ∀ x c, X.env.cells.lookup x = some c → ∀ v, s.heap.IsCell c v → h'.IsCell c v := fun x c e v ⟨o, ho, hd⟩ => by
    have nch : c ∉ ch := fun z => (hch c z).2.2.1 x c e rfl
    by_cases hc : c ∈ X.fs
    · obtain ⟨sl, q⟩ := slot c o (I.cne x c e) hc nch ho (I.freeC x c e)
      exact ⟨_, q, hd⟩
    · exact ⟨o, keep c o (I.cne x c e) hc nch ho (I.freeC x c e), hd⟩
  refine ⟨I.ok, I.os, hg, ⟨fun b o e n hb hx => ?_, fun b o e n hb hx => ?_, fun b o e n hx => ?_, fun b o e hx => ?_, fun b xs e => tups b xs (I.base.tups b xs e), fun b o xs e => frzs b o xs (I.base.frzs b o xs e), fun b ps e => ?_⟩, ?_, fun x c e => ?_, ?_, fun x c e => ?_, fun p hp => ?_, hok, I.len⟩
  · exact keep b o (neL b o e) hb (neC b o e hx) (I.base.keep b o e n hb hx) (I.base.free b o e n hx)
  · obtain ⟨sl, e1⟩ := I.base.slot b o e n hb hx
    obtain ⟨sl', e2⟩ := slot b _ (neL b o e) hb (neC b o e hx) e1 (I.base.free b o e n hx)
    exact ⟨sl', e2⟩
  · obtain ⟨o', e1⟩ := I.base.there b o e hx
    exact free b o' (neC b o e hx) e1 (I.base.free b o e n hx)
  · obtain ⟨o', e1⟩ := I.base.there b o e hx
    exact there b o' (neC b o e hx) e1
  · obtain ⟨m1, e1⟩ := I.base.tbls b ps e
    obtain ⟨m2, e2⟩ := tbls b _ e1
    exact ⟨m1 ++ m2, by rw [e2, Array.append_assoc]⟩
  · obtain ⟨m, hn, hl⟩ := I.loc
    refine ⟨m, ns m hn, fun i x v e1 e2 e3 => ?_⟩
    obtain ⟨u, r, l⟩ := hl i x v e1 e2 e3
    refine ⟨u, r, ?_⟩
    rcases l with l | ⟨k, c, e, z⟩
    · exact .inl l
    · exact .inr ⟨k, c, e, cellK x c e _ z⟩
  · obtain ⟨v, z⟩ := I.cell x c e
    exact ⟨v, cellK x c e v z⟩
  · obtain ⟨m, ⟨o, _, _, ho, _⟩, _⟩ := I.loc
    exact free _ o (fun z => (hch _ z).2.1 rfl) ho I.free
  · obtain ⟨v, o, ho, hd⟩ := I.cell x c e
    exact free c o (fun z => (hch c z).2.2.1 x c e rfl) ho (I.freeC x c e)
  · obtain ⟨e, n, ne, nf, d⟩ := I.pin p hp
    have nch : p.1 ∉ ch := fun z => (hch p.1 z).2.2.2 p hp rfl
    exact ⟨keep p.1 p.2 ne nf nch e n, free p.1 p.2 nch e n, ne, nf, d⟩
theorem Inv.un {t' : Nat} (I : Inv X pins σ H s) (u : Un X.fs [] H H' s.heap h') (hok : HOk X.prog X.w H' h') : Inv X pins σ H' { s with heap := h', toks := t' } := by
  obtain ⟨m, ⟨o, es, ep, ho, r⟩, _⟩ := id I.loc
  obtain ⟨sl, hL⟩ := u.any ho I.free (by simp)
  exact I.step (g' := s.gens) (d' := s.drawn) (ch := []) (fun _ z => nomatch z) (fun b o _ hb _ e n => u.keep b o e n hb (by simp)) (fun b o _ hb _ e n => u.slot b o e n hb (by simp)) (fun b o _ e n => u.free b o e n (by simp)) (fun b o _ e => u.there b o e (by simp)) u.tups u.frzs u.tbls (fun m' hm => by
    obtain ⟨o', es', ep', ho', r'⟩ := hm
    rw [ho] at ho'; cases ho'
    exact ⟨_, es', ep', hL, r'⟩) hok I.bare
theorem Inv.call {g' : Array GenState} {t' : Nat} {d' : Drawn} {ch : List Addr} (I : Inv X pins σ H s) (u : Un (frs X.stack) ch H H' s.heap h') (hok : HOk X.prog X.w H' h') (hg : AllBare g')
    (hch : ∀ b ∈ ch, (b ∈ X.ex ∨ X.s₀.heap.objs.size ≤ b) ∧ b ≠ X.env.locals ∧ (∀ x c, X.env.cells.lookup x = some c → c ≠ b) ∧ ∀ p ∈ X.pn ++ pins, p.1 ≠ b) :
    Inv X pins σ H' { s with heap := h', gens := g', drawn := d', toks := t' } := by
  obtain ⟨m, ⟨o, es, ep, ho, r⟩, _⟩ := id I.loc
  obtain ⟨sl, hL⟩ := u.any ho I.free fun z => (hch _ z).2.1 rfl
  exact I.step (ch := ch) hch (fun b o hL hb hc e n => u.keep b o e n (fun z => (List.mem_cons.mp (I.stkSub b z)).elim hL hb) hc) (fun b o _ _ hc e n => u.any e n hc) (fun b o hc e n => u.free b o e n hc) (fun b o hc e => u.there b o e hc) u.tups u.frzs u.tbls (fun m' hm => by
    obtain ⟨o', es', ep', ho', r'⟩ := hm
    rw [ho] at ho'; cases ho'
    exact ⟨_, es', ep', hL, r'⟩) hok hg
theorem Inv.turned {t' : Nat} {it : Addr} (I : Inv X pins σ H s) (k : ∀ b o, b ≠ it → s.heap.get? b = some o → h'.get? b = some o) (hn : H it = none) (hL : it ≠ X.env.locals)
    (h1 : it ∈ X.ex ∨ X.s₀.heap.objs.size ≤ it) (h2 : ∀ x c, X.env.cells.lookup x = some c → c ≠ it) (h3 : ∀ p ∈ X.pn ++ pins, p.1 ≠ it) : Inv X pins σ H { s with heap := h', toks := t' } := by
  have nit : ∀ b u, H b = some u → b ≠ it := fun b u e z => by rw [z, hn] at e; cases e
  refine I.step (g' := s.gens) (d' := s.drawn) (ch := [it]) (fun b hb => ?_) (fun b o _ _ hc e _ => k b o (fun z => hc (by simp [z])) e) (fun b o _ _ hc e _ => ⟨o.slots, k b o (fun z => hc (by simp [z])) e⟩) (fun _ _ _ _ n => n)
    (fun b o hc e => ⟨o, k b o (fun z => hc (by simp [z])) e⟩) (fun _ _ e => e) (fun _ _ _ e => e) (fun b ps e => ⟨#[], by rw [e]; simp⟩) (fun m hm => ?_) (fun b u e => ?_) I.bare
  · have e : b = it := by simpa using hb
    subst e
    exact ⟨h1, hL, h2, h3⟩
  · obtain ⟨o, es, ep, ho, r⟩ := hm
    exact ⟨o, es, ep, k _ o (Ne.symm hL) ho, r⟩
  · refine (I.hok b u e).stay (fun c v hc q => k c v ?_ q) (fun _ q => q) fun _ _ q => q
    rcases hc with z | z
    · rw [z]; exact nit b u e
    · exact nit c _ z
theorem Inv.tok (I : Inv X pins σ H s) (t : Nat) : Inv X pins σ H { s with toks := t } := I.un (h' := s.heap) (t' := t) Un.refl I.hok
theorem Inv.kept {t' : Nat} (I : Inv X pins σ H s) (k : ∀ b u, s.heap.get? b = some u → h'.get? b = some u) : Inv X pins σ H { s with heap := h', toks := t' } := I.un (Un.kept k) (I.hok.kept k)
theorem Inv.laid {a : Addr} {o : HO} {t' : Nat} (I : Inv X pins σ H s) (k : ∀ b u, s.heap.get? b = some u → h'.get? b = some u) (hp : s.heap.objs.size ≤ a) (new : ObjOk X.prog X.w (upd H a o) h' a o) :
    Inv X pins σ (upd H a o) { s with heap := h', toks := t' } := I.un (Un.laid k hp (I.hok.fresh hp)) (I.hok.laid k hp new)
theorem Inv.write {x e : Addr} {o : HO} {t' : Nat} (I : Inv X pins σ H s) (mu : Mut (H x)) (he : e = x ∨ H e = some (.own x)) (k : ∀ b u, b ≠ e → s.heap.get? b = some u → h'.get? b = some u) (heo : ∃ u, h'.get? e = some u)
    (new : ObjOk X.prog X.w (upd H x o) h' x o) : Inv X pins σ (upd H x o) { s with heap := h', toks := t' } := I.un (Un.write mu he k heo) (I.hok.write mu he k heo new)
theorem Inv.pins_of {pins' : List (Addr × Obj)} (I : Inv X pins σ H s) (h : ∀ p ∈ pins', s.heap.get? p.1 = some p.2 ∧ H p.1 = none ∧ p.1 ≠ X.env.locals ∧ p.1 ∉ X.fs ∧ ∀ v, p.2.data ≠ .cell v) : Inv X pins' σ H s :=
  ⟨I.ok, I.os, I.bare, I.base, I.loc, I.cell, I.free, I.freeC, fun p hp => (List.mem_append.mp hp).elim (fun z => I.pin p (List.mem_append_left _ z)) (h p), I.hok, I.len⟩
theorem nodup_ix {N : List Str} (hN : N.Nodup) {i j : Nat} {x : Str} (a : N[i]? = some x) (b : N[j]? = some x) : i = j := by
  obtain ⟨h1, e1⟩ := List.getElem?_eq_some_iff.mp a
  obtain ⟨h2, e2⟩ := List.getElem?_eq_some_iff.mp b
  exact (List.getElem_inj hN).mp (e1.trans e2.symm)
theorem store_ok2 {M : Model} {A : Around} {E : Value → Shared → Prop} {i : Nat} {x : Str} {v : V} {u : Value} {Q : Unit → Shared → Prop} (I : Inv X pins σ H s) (hN : X.N.Nodup) (hi : X.N[i]? = some x) (hx : Loc X.env.scope x) (r : RelV v u)
    (h : ∀ s', Inv X pins (σ.set i (some v)) H s' → (∃ a, Heap.SameBut a s.heap s'.heap ∧ (a = X.env.locals ∨ X.env.cells.lookup x = some a)) → Q () s') (hf : X.fn x = true ∨ X.env.scope.names.lookup x = some .local := by first | exact .inl rfl | exact .inr rfl | assumption) : wpAny M A (storeName X.env x u) Q E s := by
  obtain ⟨m, hn, hl⟩ := id I.loc
  have hcls : (X.env.scope.kind == .class || (X.env.scope.kind == .module && X.env.locals != X.env.globals)) = false := by rw [I.ok.kind]; rfl
  have hiσ : i < σ.length := by rw [I.len]; exact (List.getElem?_eq_some_iff.mp hi).1
  have cne := I.cne
  have tracked : ∀ {a : Addr} {h' : Heap}, (∃ o, s.heap.get? a = some o ∧ H a = none) → Heap.SameBut a s.heap h' → HOk X.prog X.w H h' := fun {a h'} ha hs b ob e => by
    obtain ⟨_, _, hfree⟩ := ha
    refine (I.hok b ob e).stay (fun c w' hc q => (hs.2 c ?_).trans q) (fun _ q => q) fun _ _ q => q
    rintro rfl
    rcases hc with rfl | hc
    · rw [hfree] at e; cases e
    · rw [hfree] at hc; cases hc
  rcases hx with hk | hk
  · refine wpAny_storeName_local hk hn (fun h' hn' hs => ?_) hcls
    obtain ⟨oL, _, _, hoL, _⟩ := id hn
    refine h _ ⟨I.ok, I.os, I.bare, ⟨fun b o e n hb hx => ?_, fun b o e n hb hx => ?_, I.base.free, fun b o e hx => ?_, I.base.tups, I.base.frzs, I.base.tbls⟩, ⟨_, hn', fun j y v' e1 e2 e3 => ?_⟩, fun y c e => ?_, I.free, I.freeC, fun p hp => ?_, tracked ⟨oL, hoL, I.free⟩ hs, by simpa using I.len⟩ ⟨_, hs, .inl rfl⟩
    · exact (hs.2 b (Nat.ne_of_lt (Nat.lt_of_lt_of_le (Heap.lt_size e) I.ok.above))).trans (I.base.keep b o e n hb hx)
    · obtain ⟨sl, e1⟩ := I.base.slot b o e n hb hx
      exact ⟨sl, (hs.2 b (Nat.ne_of_lt (Nat.lt_of_lt_of_le (Heap.lt_size e) I.ok.above))).trans e1⟩
    · obtain ⟨o', e1⟩ := I.base.there b o e hx
      exact ⟨o', (hs.2 b (Nat.ne_of_lt (Nat.lt_of_lt_of_le (Heap.lt_size e) I.ok.above))).trans e1⟩
    · by_cases hj : j = i
      · subst hj
        rw [hi] at e1; cases e1
        rw [List.getElem?_set_self hiσ] at e2
        cases e2
        exact ⟨u, r, .inl ⟨hk, by simp⟩⟩
      · rw [List.getElem?_set_ne (Ne.symm hj)] at e2
        obtain ⟨u', r', q⟩ := hl j y v' e1 e2 e3
        refine ⟨u', r', ?_⟩
        rcases q with ⟨k, e⟩ | ⟨k, c, e, z⟩
        · refine .inl ⟨k, ?_⟩
          have : y ≠ x := fun e => hj (nodup_ix hN e1 (e ▸ hi))
          simp [this, e]
        · exact .inr ⟨k, c, e, z.sameBut hs (cne y c e)⟩
    · obtain ⟨w', z⟩ := I.cell y c e
      exact ⟨w', z.sameBut hs (cne y c e)⟩
    · obtain ⟨e, n, ne, nf, d⟩ := I.pin p hp
      exact ⟨(hs.2 p.1 ne).trans e, n, ne, nf, d⟩
  · have hfn : X.fn x = true := by
      rcases hf with z | z
      · exact z
      · rw [z] at hk; cases hk
    obtain ⟨c, hc⟩ := I.ok.has x (.inl hk)
    obtain ⟨w', z⟩ := I.cell x c hc
    refine wpAny_storeName_cell I.ok.kind hk hc z (fun h' hc' hs => ?_)
    obtain ⟨oc, hoc, hocd⟩ := id z
    refine h { s with heap := h' } ⟨I.ok, I.os, I.bare, ⟨fun b o e n hb hx => ?_, fun b o e n hb hx => ?_, I.base.free, fun b o e hx => ?_, I.base.tups, I.base.frzs, I.base.tbls⟩, ⟨m, hn.sameBut hs (Ne.symm (cne x c hc)), fun j y v' e1 e2 e3 => ?_⟩, fun y c' e => ?_, I.free, I.freeC, fun p hp => ?_, tracked ⟨oc, hoc, I.freeC x c hc⟩ hs, by simpa using I.len⟩ ⟨c, hs, .inr hc⟩
    · exact (hs.2 b (Nat.ne_of_lt (Nat.lt_of_lt_of_le (Heap.lt_size e) (I.ok.cab x c hfn hc)))).trans (I.base.keep b o e n hb hx)
    · obtain ⟨sl, e1⟩ := I.base.slot b o e n hb hx
      exact ⟨sl, (hs.2 b (Nat.ne_of_lt (Nat.lt_of_lt_of_le (Heap.lt_size e) (I.ok.cab x c hfn hc)))).trans e1⟩
    · obtain ⟨o', e1⟩ := I.base.there b o e hx
      exact ⟨o', (hs.2 b (Nat.ne_of_lt (Nat.lt_of_lt_of_le (Heap.lt_size e) (I.ok.cab x c hfn hc)))).trans e1⟩
    · by_cases hj : j = i
      · subst hj
        rw [hi] at e1; cases e1
        rw [List.getElem?_set_self hiσ] at e2
        cases e2
        exact ⟨u, r, .inr ⟨.inl hk, c, hc, hc'⟩⟩
      · rw [List.getElem?_set_ne (Ne.symm hj)] at e2
        obtain ⟨u', r', q⟩ := hl j y v' e1 e2 e3
        refine ⟨u', r', ?_⟩
        rcases q with q | ⟨k, c', e, z'⟩
        · exact .inl q
        · refine .inr ⟨k, c', e, z'.sameBut hs ?_⟩
          rintro rfl
          exact hj (nodup_ix hN e1 (I.ok.inj _ _ _ e hc ▸ hi))
    · by_cases hcc : c' = c
      · subst hcc; exact ⟨_, hc'⟩
      · obtain ⟨w2, z2⟩ := I.cell y c' e
        exact ⟨w2, z2.sameBut hs hcc⟩
    · obtain ⟨e, n, ne, nf, d⟩ := I.pin p hp
      refine ⟨(hs.2 p.1 ?_).trans e, n, ne, nf, d⟩
      intro q
      rw [q, hoc] at e
      have q' : oc = p.2 := Option.some.inj e
      exact d w' (by rw [← q']; exact hocd)
theorem store_ok {M : Model} {A : Around} {E : Value → Shared → Prop} {i : Nat} {x : Str} {v : V} {u : Value} {Q : Unit → Shared → Prop} (I : Inv X pins σ H s) (hN : X.N.Nodup) (hi : X.N[i]? = some x) (hx : Loc X.env.scope x) (r : RelV v u)
    (h : ∀ s', Inv X pins (σ.set i (some v)) H s' → Q () s') (hf : X.fn x = true ∨ X.env.scope.names.lookup x = some .local := by first | exact .inl rfl | exact .inr rfl | assumption) : wpAny M A (storeName X.env x u) Q E s :=
  store_ok2 I hN hi hx r (fun s' I' _ => h s' I') hf
theorem Inv.call' {s' : Shared} {ch : List Addr} (I : Inv X pins σ H s) (ho : s'.os = s.os) (u : Un (frs X.stack) ch H H' s.heap s'.heap) (hok : HOk X.prog X.w H' s'.heap) (hg : AllBare s'.gens)
    (hch : ∀ b ∈ ch, (b ∈ X.ex ∨ X.s₀.heap.objs.size ≤ b) ∧ b ≠ X.env.locals ∧ (∀ x c, X.env.cells.lookup x = some c → c ≠ b) ∧ ∀ p ∈ X.pn ++ pins, p.1 ≠ b) : Inv X pins σ H' s' := by
  obtain ⟨h', g', d', t', o'⟩ := s'
  have e : o' = s.os := ho
  subst e
  exact I.call (g' := g') (t' := t') (d' := d') u hok hg hch
end
abbrev XK := Value → Option Addr → Hp → Prop
abbrev St := List (Option V)
abbrev VK := V → Hp → Prop
abbrev TE := St → Hp → VK → Prop
abbrev TT := St → Hp → (Bool → Hp → Prop) → Prop
abbrev TA := St → Hp → (List V → Hp → Prop) → Prop
structure Ends where
  nx : St → Hp → Prop
  rt : VK
  bk : St → Hp → Prop := fun _ _ => False
  ct : St → Hp → Prop := fun _ _ => False
abbrev TS := Ends → St → Hp → Prop
def EP (X : Cx) (pins : List (Addr × Obj)) (σ : St) (Q : VK) (u : Value) (s' : Shared) : Prop := ∃ v H', Inv X pins σ H' s' ∧ RelV v u ∧ Q v H'
def TP (X : Cx) (pins : List (Addr × Obj)) (σ : St) (Q : Bool → Hp → Prop) (b : Bool) (s' : Shared) : Prop := ∃ H', Inv X pins σ H' s' ∧ Q b H'
def AP (X : Cx) (pins : List (Addr × Obj)) (σ : St) (Q : List V → Hp → Prop) (us : List Value) (s' : Shared) : Prop := ∃ vs H', Inv X pins σ H' s' ∧ Vals vs us ∧ Q vs H'
def SP (X : Cx) (pins : List (Addr × Obj)) (D : Ends) (f : Flow) (s' : Shared) : Prop :=
  match f with
  | .next => ∃ σ' H', Inv X pins σ' H' s' ∧ D.nx σ' H'
  | .brk => ∃ σ' H', Inv X pins σ' H' s' ∧ D.bk σ' H'
  | .cont => ∃ σ' H', Inv X pins σ' H' s' ∧ D.ct σ' H'
  | .ret u => ∃ v σ' H', Inv X pins σ' H' s' ∧ RelV v u ∧ D.rt v H'
def PE (X : Cx) (e : Expr) (t : TE) : Prop :=
  ∀ (pins : List (Addr × Obj)) (s : Shared) (σ : St) (H : Hp) (Q : VK), Inv X pins σ H s → t σ H Q → wpAny (model X.prog X.w) X.A (eval e X.env) (EP X pins σ Q) X.xe s
def PT (X : Cx) (e : Expr) (t : TT) : Prop :=
  ∀ (pins : List (Addr × Obj)) (s : Shared) (σ : St) (H : Hp) (Q : Bool → Hp → Prop), Inv X pins σ H s → t σ H Q → wpAny (model X.prog X.w) X.A (isTrue e X.env (eval e X.env)) (TP X pins σ Q) X.xe s
def PW (X : Cx) (e : Expr) (t : TT) : Prop :=
  ∀ (whole : Sem Value) (pins : List (Addr × Obj)) (s : Shared) (σ : St) (H : Hp) (Q : Bool → Hp → Prop), Inv X pins σ H s → t σ H Q → wpAny (model X.prog X.w) X.A (isTrue e X.env whole) (TP X pins σ Q) X.xe s
theorem PW.pt {X : Cx} {e : Expr} {t : TT} (h : PW X e t) : PT X e t := h _
def PA (X : Cx) (es : List Expr) (t : TA) : Prop :=
  ∀ (pos : Pos) (pins : List (Addr × Obj)) (s : Shared) (σ : St) (H : Hp) (Q : List V → Hp → Prop), Inv X pins σ H s → t σ H Q → wpAny (model X.prog X.w) X.A (spliced (backTo pos (starEach es X.env))) (AP X pins σ Q) X.xe s
def PS (X : Cx) (st : Stmt) (t : TS) : Prop :=
  ∀ (pins : List (Addr × Obj)) (s : Shared) (σ : St) (H : Hp) (D : Ends), Inv X pins σ H s → t D σ H → wpAny (model X.prog X.w) X.A (exec st X.env) (SP X pins D) X.xe s
def PSs (X : Cx) (st : List Stmt) (t : TS) : Prop :=
  ∀ (pins : List (Addr × Obj)) (s : Shared) (σ : St) (H : Hp) (D : Ends), Inv X pins σ H s → t D σ H → wpAny (model X.prog X.w) X.A (execs st X.env) (SP X pins D) X.xe s
theorem thn {α : Type} {t : Sem α} {Q Q' : α → Shared → Prop} {M : Model} {A : Around} {E : Value → Shared → Prop} {s : Shared} (h : wpAny M A t Q E s) (hQ : ∀ a s, Q a s → Q' a s) : wpAny M A t Q' E s := wpAny_mono h hQ fun _ _ x => x
end L2
namespace L2
open PySem PySem.Spec PyProof.Rows
section
variable {X : Cx}
def tVar (i : Nat) : TE := fun σ H Q => ∃ v, σ[i]? = some (some v) ∧ Q v H
def tC (v : V) : TE := fun _ H Q => Q v H
theorem pe_var {i : Nat} {x : Str} {pos : Pos} (hN : X.N[i]? = some x) (hv : Vis X.env.scope x) (hd : (x == ("__debug__" : Str)) = false := by decide) (hcd : (x == ("__classdict__" : Str)) = false := by decide) : PE X (.Name x pos) (tVar i) := by
  intro pins s σ H Q I h
  obtain ⟨v, e, h⟩ := h
  obtain ⟨m, hn, hl⟩ := I.loc
  obtain ⟨u, r, l⟩ := hl i x v hN e hv
  have fin : EP X pins σ Q u s := ⟨v, H, I, r, h⟩
  rcases l with ⟨hk, hm⟩ | ⟨hk, c, hc, hcell⟩
  · exact wpAny_Name (wpAny_loadName_local I.ok.kind hk hn hm fin) hd
  · rcases hk with hk | hk
    · exact wpAny_Name (wpAny_loadName_cell I.ok.kind hk hc hcell fin) hd
    · exact wpAny_Name (wpAny_loadName_free I.ok.kind hk hc hcell fin hcd) hd
theorem pe_int {i j pos} : PE X (.Constant (.int i) j pos) (tC (.int i)) := fun _ _ _ H _ I h => wpAny_Constant_int ⟨.int i, H, I.tok _, ⟨_, rfl⟩, h⟩
theorem pe_bl {b j pos} : PE X (.Constant (.bool b) j pos) (tC (.bl b)) := fun _ _ _ H _ I h => Constant_bool ⟨.bl b, H, I, rfl, h⟩
theorem pe_non {j pos} : PE X (.Constant .none j pos) (tC .non) := fun _ _ _ H _ I h => Constant_none ⟨.non, H, I, rfl, h⟩
theorem pe_str {x j pos} : PE X (.Constant (.str x) j pos) (tC (.str x)) := fun _ _ _ H _ I h => Calls.Constant_str ⟨.str x, H, I.tok _, ⟨_, rfl⟩, h⟩
def Gl (X : Cx) (x : Str) : Prop := X.env.kindOf x = some .globalImplicit
theorem ld_glob {E : Value → Shared → Prop} {pins : List (Addr × Obj)} {s : Shared} {σ : St} {H : Hp} {x : Str} {u : Value} {pos : Pos} {Q : Value → Shared → Prop} (I : Inv X pins σ H s) (hg : Gl X x) (hm : X.mg x = some u) (h : Q u s)
    (hd : (x == ("__debug__" : Str)) = false := by decide) : wpAny (model X.prog X.w) X.A (eval (.Name x pos) X.env) Q E s :=
  Calls.Name_function_global I.ok.kind hg (Calls.loadGlobal_global (by rw [I.ok.glob]; exact I.mod.glob.keeps I.bk) hm h) hd
theorem ld_blt {E : Value → Shared → Prop} {pins : List (Addr × Obj)} {s : Shared} {σ : St} {H : Hp} {x : Str} {u : Value} {pos : Pos} {Q : Value → Shared → Prop} (I : Inv X pins σ H s) (hg : Gl X x) (hm : X.mg x = none) (hv : bootBuiltins x = some u) (h : Q u s)
    (hn : x ≠ "__name__" := by decide) (hd : (x == ("__debug__" : Str)) = false := by decide) : wpAny (model X.prog X.w) X.A (eval (.Name x pos) X.env) Q E s := by
  obtain ⟨mb, h1, h2⟩ := I.mod.blt
  exact Calls.Name_function_global I.ok.kind hg (Calls.loadGlobal_builtin (by rw [I.ok.glob]; exact I.mod.glob.keeps I.bk) hm (by rw [I.ok.blt]; exact h1.keeps I.bk) ((h2 x hn).trans hv) h) hd
theorem pe_glob {x : Str} {v : V} {u : Value} {pos : Pos} (hg : Gl X x) (hm : X.mg x = some u) (r : RelV v u) (hd : (x == ("__debug__" : Str)) = false := by decide) : PE X (.Name x pos) (tC v) :=
  fun _ _ _ H _ I h => ld_glob I hg hm ⟨v, H, I, r, h⟩ hd
theorem pe_bltn {x : Str} {v : V} {u : Value} {pos : Pos} (hg : Gl X x) (hm : X.mg x = none) (hv : bootBuiltins x = some u) (r : RelV v u) (hn : x ≠ "__name__" := by decide) (hd : (x == ("__debug__" : Str)) = false := by decide) : PE X (.Name x pos) (tC v) :=
  fun _ _ _ H _ I h => ld_blt I hg hm hv ⟨v, H, I, r, h⟩ hn hd
variable {a b : Expr} {ta tb : TE} {pos : Pos}
def PC (X : Cx) (op : CmpOp) (a b : Expr) (t : TE) : Prop :=
  ∀ (pins : List (Addr × Obj)) (s : Shared) (σ : St) (H : Hp) (Q : VK), Inv X pins σ H s → t σ H Q →
    wpAny (model X.prog X.w) X.A (eval a X.env) (fun v s₁ => wpAny (model X.prog X.w) X.A (eval b X.env) (fun u s₂ => wpAny (model X.prog X.w) X.A (compareOp op v u) (EP X pins σ Q) X.xe s₂) X.xe s₁) X.xe s
theorem nobehind (b : Expr) {op : CmpOp} (h : op ≠ .In) (h2 : op ≠ .NotIn) : behindInMarks op b = false := by
  have e1 : (op == CmpOp.In) = false := by cases op <;> first | rfl | exact absurd rfl h
  have e2 : (op == CmpOp.NotIn) = false := by cases op <;> first | rfl | exact absurd rfl h2
  cases b <;> simp [behindInMarks, e1, e2]
def tB (t : TE) : TT := fun σ H Q => t σ H fun x H1 => ∃ c, x = .bl c ∧ Q c H1
theorem pt_cmp {op : CmpOp} {t : TE} (h : PC X op a b t) (h1 : behindInMarks op b = false := by first | exact nobehind _ (by decide) (by decide) | rfl) : PT X (.Compare a [op] [b] pos) (tB t) := by
  intro pins s σ H Q I hw
  refine wpAny_isTrue_Compare1 (thn (h pins s σ H _ I hw) fun v s1 h1 => thn h1 fun u s2 h2 => thn h2 fun c s3 ⟨x, H1, I1, r1, q1⟩ => ?_) h1
  obtain ⟨d, rfl, q⟩ := q1
  cases r1
  exact wpAny_truthy_bool ⟨H1, I1, q⟩
theorem pt_val {e : Expr} {t : TE} (h : PE X e t) (he : ∀ whole, isTrue e X.env whole = (do let v ← whole; standAt e.pos; holding [v] (truthy v)) := by intro _; rfl) : PT X e (tB t) := by
  intro pins s σ H Q I hw
  refine isTrue_plain (thn (h pins s σ H _ I hw) fun v s1 ⟨x, H1, I1, r1, q1⟩ => ?_) (he _)
  obtain ⟨d, rfl, q⟩ := q1
  cases r1
  exact wpAny_truthy_bool ⟨H1, I1, q⟩
variable {tA tB' : TT} {rest : List Expr}
def tAnd (t u : TT) : TT := fun σ H Q => t σ H fun c H1 => if c = true then u σ H1 Q else Q false H1
def tOr (t u : TT) : TT := fun σ H Q => t σ H fun c H1 => if c = true then Q true H1 else u σ H1 Q
def tNot (t : TT) : TT := fun σ H Q => t σ H fun c H1 => Q (!c) H1
theorem pw_and1 (ha : PT X a tA) : PW X (.BoolOp .And [a] pos) tA := by
  intro wh pins s σ H Q I h
  refine isTrue_and (thn (ha pins s σ H Q I h) fun c s1 e => ?_)
  cases c with
  | true => exact isTrue_and_nil e
  | false => exact e
theorem pw_or1 (ha : PT X a tA) : PW X (.BoolOp .Or [a] pos) tA := by
  intro wh pins s σ H Q I h
  refine isTrue_or (thn (ha pins s σ H Q I h) fun c s1 e => ?_)
  cases c with
  | false => exact isTrue_or_nil e
  | true => exact e
theorem pw_and (ha : PT X a tA) (hb : PW X (.BoolOp .And (b :: rest) pos) tB') : PW X (.BoolOp .And (a :: b :: rest) pos) (tAnd tA tB') := by
  intro wh pins s σ H Q I h
  refine isTrue_and (thn (ha pins s σ H _ I h) fun c s1 ⟨H1, I1, q1⟩ => ?_)
  cases c with
  | true => exact hb wh pins s1 σ H1 Q I1 q1
  | false => exact ⟨H1, I1, q1⟩
theorem pw_or (ha : PT X a tA) (hb : PW X (.BoolOp .Or (b :: rest) pos) tB') : PW X (.BoolOp .Or (a :: b :: rest) pos) (tOr tA tB') := by
  intro wh pins s σ H Q I h
  refine isTrue_or (thn (ha pins s σ H _ I h) fun c s1 ⟨H1, I1, q1⟩ => ?_)
  cases c with
  | true => exact ⟨H1, I1, q1⟩
  | false => exact hb wh pins s1 σ H1 Q I1 q1
theorem pt_not (ha : PT X a tA) : PT X (.UnaryOp .Not a pos) (tNot tA) := by
  intro pins s σ H Q I h
  exact isTrue_not (ha pins s σ H (fun c H1 => Q (!c) H1) I h)
def tAndV (ta tb : TE) : TE := fun σ H Q => ta σ H fun x H1 => ∃ c, x = .bl c ∧ if c = true then tb σ H1 Q else Q (.bl false) H1
def tNotV (ta : TE) : TE := fun σ H Q => ta σ H fun x H1 => ∃ c, x = .bl c ∧ Q (.bl (!c)) H1
theorem pe_one {op} {t : TE} (h : PE X a t) : PE X (.BoolOp op [a] pos) t := fun pins s σ H Q I hw => BoolOp_one (h pins s σ H Q I hw)
theorem pe_and (ha : PE X a ta) (hb : PE X (.BoolOp .And (b :: rest) pos) tb) : PE X (.BoolOp .And (a :: b :: rest) pos) (tAndV ta tb) := by
  intro pins s σ H Q I h
  refine BoolOp_and (thn (ha pins s σ H _ I h) fun v s1 ⟨x, H1, I1, r1, q1⟩ => ?_)
  obtain ⟨c, rfl, q1⟩ := q1
  cases r1
  refine wpAny_truthy_bool ?_
  cases c with
  | true => exact hb pins s1 σ H1 Q I1 q1
  | false => exact ⟨.bl false, H1, I1, rfl, q1⟩
theorem pe_not (ha : PE X a ta) : PE X (.UnaryOp .Not a pos) (tNotV ta) := by
  intro pins s σ H Q I h
  refine UnaryOp_ (thn (ha pins s σ H _ I h) fun v s1 ⟨x, H1, I1, r1, q1⟩ => ?_)
  obtain ⟨c, rfl, q1⟩ := q1
  cases r1
  exact not_of (wpAny_truthy_bool ⟨.bl (!c), H1, I1, rfl, q1⟩)
def tIf (t : TT) (ta tb : TE) : TE := fun σ H Q => t σ H fun c H1 => if c = true then ta σ H1 Q else tb σ H1 Q
theorem pe_ifExp {c : Expr} (hc : PT X c tA) (ha : PE X a ta) (hb : PE X b tb) : PE X (.IfExp c a b pos) (tIf tA ta tb) := by
  intro pins s σ H Q I h
  refine wpAny_IfExp (thn (hc pins s σ H _ I h) fun d s1 ⟨H1, I1, q1⟩ => ?_)
  cases d with
  | true => exact ha pins s1 σ H1 Q I1 q1
  | false => exact hb pins s1 σ H1 Q I1 q1
end
end L2
namespace L2
open PySem PySem.Spec PyProof.Rows
def SqL (K : PySem.W.Frag) (H : Hp) (a : Addr) (xs : List V) : Prop :=
  Rd H a (.lst xs) ∨
    ∃ (o : Obj) (its : Array Value) (n : Nat), K.lookup a = some o ∧ o.cls = .type "list" ∧ o.dict = none ∧ o.data = .seq its n ∧ its.size ≤ sizeLine ∧ Vals xs its.toList
def SqT (K : PySem.W.Frag) (H : Hp) (a : Addr) (xs : List V) : Prop :=
  Rd H a (.tup xs) ∨
    ∃ (o : Obj) (its : Array Value) (n : Nat), K.lookup a = some o ∧ o.cls = .type "tuple" ∧ o.data = .seq its n ∧ its.size ≤ sizeLine ∧ Vals xs its.toList
def absV : Value → Option V
  | .none => some .non
  | .bool b => some (.bl b)
  | .int i _ => some (.int i)
  | .str x _ => some (.str x)
  | .bytes b _ => some (.byt b)
  | .float b _ => some (.flt b)
  | .ref a => some (.ref a)
  | .type n => some (.ty n)
  | _ => none
theorem RelV.abs {x : V} {u : Value} (r : RelV x u) : absV u = some x := by
  cases x with
  | non => cases r; rfl
  | bl _ => cases r; rfl
  | int _ => obtain ⟨t, rfl⟩ := r; rfl
  | str _ => obtain ⟨t, rfl⟩ := r; rfl
  | byt _ => obtain ⟨t, rfl⟩ := r; rfl
  | flt _ => obtain ⟨t, rfl⟩ := r; rfl
  | ref _ => cases r; rfl
  | ty _ => cases r; rfl
theorem RelV.inj {x y : V} {u : Value} (r : RelV x u) (q : RelV y u) : x = y := Option.some.inj (r.abs.symm.trans q.abs)
theorem Vals.inj : ∀ {xs ys : List V} {us : List Value}, Vals xs us → Vals ys us → xs = ys
  | _, _, _, .nil, .nil => rfl
  | _, _, _, .cons r t, .cons r' t' => by rw [r.inj r', Vals.inj t t']
section
variable {X : Cx} {pins : List (Addr × Obj)} {σ : St} {H : Hp} {s : Shared} {a : Addr} {xs ys : List V}
theorem SqL.of {K : PySem.W.Frag} (h : H a = some (.lst xs)) : SqL K H a xs := .inl (.inl h)
theorem SqT.of {K : PySem.W.Frag} (h : H a = some (.tup xs)) : SqT K H a xs := .inl (.inl h)
theorem Inv.list (I : Inv X pins σ H s) (h : SqL X.K H a xs) : ∃ its : List Value, Vals xs its ∧ PlainL s.heap a its.toArray ∧ xs.length ≤ sizeLine := by
  rcases h with h | ⟨o, its, n, hk, hc, hd, hs, hz, r⟩
  · obtain ⟨z, its, n, r, e⟩ := h.ok I.hok
    exact ⟨its, r, ⟨_, n, e, rfl, rfl, rfl⟩, z⟩
  · refine ⟨its.toList, r, ⟨o, n, I.kIn a o hk, hc, hd, by simpa using hs⟩, ?_⟩
    have e := r.length
    simp only [Array.length_toList] at e
    omega
theorem Inv.tuple (I : Inv X pins σ H s) (h : SqT X.K H a xs) : ∃ its : List Value, Vals xs its ∧ IsTup s.heap a its.toArray ∧ xs.length ≤ sizeLine := by
  rcases h with h | ⟨o, its, n, hk, hc, hs, hz, r⟩
  · obtain ⟨z, its, r, p⟩ := h.ok I.hok
    exact ⟨its, r, p, z⟩
  · refine ⟨its.toList, r, ⟨o, I.kIn a o hk, hc, n, by simpa using hs⟩, ?_⟩
    have e := r.length
    simp only [Array.length_toList] at e
    omega
theorem Inv.list_inj (I : Inv X pins σ H s) (h : SqL X.K H a xs) (h' : SqL X.K H a ys) : xs = ys := by
  obtain ⟨its, r, ⟨o, n, e, _, _, d⟩, _⟩ := I.list h
  obtain ⟨its', r', ⟨o', n', e', _, _, d'⟩, _⟩ := I.list h'
  rw [e] at e'; cases e'
  rw [d] at d'
  injection d' with d1 _
  have : its = its' := by simpa using congrArg Array.toList d1
  subst this
  exact r.inj r'
end
abbrev Cx.wish (X : Cx) (E : Value → Shared → Prop) : Cx := { X with xe := E }
abbrev Cx.nox (X : Cx) : Cx := X.wish fun _ _ => False
theorem Cx.Ok.wish {X : Cx} (ok : X.Ok) (E : Value → Shared → Prop) : (X.wish E).Ok :=
  ⟨ok.mod, ok.kind, ok.glob, ok.blt, ok.above, ok.inj, ok.has, ok.cab, ok.hd, ok.frames, ok.stk, ok.exf, ok.bs, ok.bsz, ok.noex, ok.exfs, ok.funs, ok.frf⟩
theorem Cx.Ok.unwish {X : Cx} {E : Value → Shared → Prop} (ok : (X.wish E).Ok) : X.Ok :=
  ⟨ok.mod, ok.kind, ok.glob, ok.blt, ok.above, ok.inj, ok.has, ok.cab, ok.hd, ok.frames, ok.stk, ok.exf, ok.bs, ok.bsz, ok.noex, ok.exfs, ok.funs, ok.frf⟩
section
variable {X : Cx} {pins : List (Addr × Obj)} {σ : St} {H : Hp} {s : Shared} {E : Value → Shared → Prop}
theorem Inv.wish (I : Inv X pins σ H s) (E : Value → Shared → Prop) : Inv (X.wish E) pins σ H s := ⟨I.ok.wish E, I.os, I.bare, I.base, I.loc, I.cell, I.free, I.freeC, I.pin, I.hok, I.len⟩
theorem Inv.unwish (I : Inv (X.wish E) pins σ H s) : Inv X pins σ H s := ⟨I.ok.unwish, I.os, I.bare, I.base, I.loc, I.cell, I.free, I.freeC, I.pin, I.hok, I.len⟩
theorem SP.unwish {D : Ends} {f : Flow} {s' : Shared} (h : SP (X.wish E) pins D f s') : SP X pins D f s' := by
  cases f with
  | next => obtain ⟨σ', H', I, q⟩ := h; exact ⟨σ', H', I.unwish, q⟩
  | brk => obtain ⟨σ', H', I, q⟩ := h; exact ⟨σ', H', I.unwish, q⟩
  | cont => obtain ⟨σ', H', I, q⟩ := h; exact ⟨σ', H', I.unwish, q⟩
  | ret u => obtain ⟨v, σ', H', I, r, q⟩ := h; exact ⟨v, σ', H', I.unwish, r, q⟩
theorem PE.nox {e : Expr} {t : TE} (h : PE X.nox e t) : PE X e t := fun pins s σ H Q I hw =>
  wpAny_mono (h pins s σ H Q (I.wish _) hw) (fun _ _ ⟨v, H', I', r, q⟩ => ⟨v, H', I'.unwish, r, q⟩) fun _ _ z => False.elim z
theorem PT.nox {e : Expr} {t : TT} (h : PT X.nox e t) : PT X e t := fun pins s σ H Q I hw =>
  wpAny_mono (h pins s σ H Q (I.wish _) hw) (fun _ _ ⟨H', I', q⟩ => ⟨H', I'.unwish, q⟩) fun _ _ z => False.elim z
theorem PSs.nox {st : List Stmt} {t : TS} (h : PSs X.nox st t) : PSs X st t := fun pins s σ H D I hw =>
  wpAny_mono (h pins s σ H D (I.wish _) hw) (fun _ _ q => q.unwish) fun _ _ z => False.elim z
end
section
variable {X : Cx} {st : Stmt} {rest : List Stmt} {t u : TS} {e : Expr} {te : TE} {pos : Pos}
def tNext : TS := fun D σ H => D.nx σ H
def tSeq (t u : TS) : TS := fun D σ H => t { D with nx := u D } σ H
theorem pss_nil : PSs X [] tNext := fun _ _ σ H _ I h => wpAny_execs_nil ⟨σ, H, I, h⟩
theorem pss_cons (h1 : PS X st t) (h2 : PSs X rest u) : PSs X (st :: rest) (tSeq t u) := by
  intro pins s σ H D I h
  refine wpAny_execs_cons (thn (h1 pins s σ H { D with nx := u D } I h) fun f s1 q => ?_)
  cases f with
  | next =>
    obtain ⟨σ', H', I', q⟩ := q
    exact h2 pins s1 σ' H' D I' q
  | ret v => exact q
  | brk => exact q
  | cont => exact q
theorem pss_one (h1 : PS X st t) : PSs X [st] t := by
  intro pins s σ H D I h
  refine wpAny_execs_cons (thn (h1 pins s σ H D I h) fun f s1 q => ?_)
  cases f with
  | next => exact wpAny_execs_nil q
  | ret v => exact q
  | brk => exact q
  | cont => exact q
theorem Inv.quiet {pins : List (Addr × Obj)} {σ : St} {H : Hp} {s : Shared} (I : Inv X pins σ H s) : interactive X.env = false := by simp [interactive, I.ok.kind]
def tDrop (te : TE) : TS := fun D σ H => te σ H fun _ H1 => D.nx σ H1
theorem ps_expr (he : PE X e te) (hs : swapsWith e none pos.line X.env = pure false := by rfl) : PS X (.Expr e pos) (tDrop te) := by
  intro pins s σ H D I h
  exact wpAny_Expr_any (thn (he pins s σ H _ I h) fun v s1 ⟨x, H1, I1, r1, q1⟩ => ⟨σ, H1, I1, q1⟩) I.quiet hs
def tRet (te : TE) : TS := fun D σ H => te σ H D.rt
theorem ps_ret (he : PE X e te) : PS X (.Return (some e) pos) (tRet te) := by
  intro pins s σ H D I h
  exact wpAny_Return_some (thn (he pins s σ H _ I h) fun v s1 ⟨x, H1, I1, r1, q1⟩ => ⟨x, σ, H1, I1, r1, q1⟩)
def tIfS (c : TT) (t u : TS) : TS := fun D σ H => c σ H fun b H1 => if b = true then t D σ H1 else u D σ H1
theorem ps_if {c : Expr} {a b : List Stmt} {tc : TT} (hc : PT X c tc) (ha : PSs X a t) (hb : PSs X b u) : PS X (.If c a b pos) (tIfS tc t u) := by
  intro pins s σ H D I h
  refine wpAny_If (thn (hc pins s σ H _ I h) fun d s1 ⟨H1, I1, q1⟩ => ?_)
  cases d with
  | true => exact ha pins s1 σ H1 D I1 q1
  | false => exact hb pins s1 σ H1 D I1 q1
def tNever : TS := fun _ _ _ => False
theorem ps_never : PS X st tNever := fun _ _ _ _ _ _ h => h.elim
end
abbrev TG := V → St → Hp → (St → Hp → Prop) → Prop
abbrev TGs := List V → St → Hp → (St → Hp → Prop) → Prop
def PG (X : Cx) (target : Expr) (t : TG) : Prop :=
  ∀ (pins : List (Addr × Obj)) (s : Shared) (σ : St) (H : Hp) (v : V) (u : Value) (Q : St → Hp → Prop), Inv X pins σ H s → RelV v u → t v σ H Q →
    wpAny (model X.prog X.w) X.A (assign target X.env u) (fun _ s' => ∃ σ' H', Inv X pins σ' H' s' ∧ Q σ' H') X.xe s
def PGs (X : Cx) (ts : List Expr) (t : TGs) : Prop :=
  ∀ (pins : List (Addr × Obj)) (s : Shared) (σ : St) (H : Hp) (vs : List V) (us : List Value) (Q : St → Hp → Prop), Inv X pins σ H s → Vals vs us → t vs σ H Q →
    wpAny (model X.prog X.w) X.A (assignInOrder ((assignEach ts X.env).map (·.2)) us) (fun _ s' => ∃ σ' H', Inv X pins σ' H' s' ∧ Q σ' H') X.xe s
section
variable {X : Cx} {pos : Pos}
def gName (i : Nat) : TG := fun v σ H Q => Q (σ.set i (some v)) H
theorem pg_name {i : Nat} {x : Str} (hN : X.N.Nodup) (hi : X.N[i]? = some x) (hx : Loc X.env.scope x) (hf : X.fn x = true ∨ X.env.scope.names.lookup x = some .local := by first | exact .inl rfl | exact .inr rfl | assumption) : PG X (.Name x pos) (gName i) := by
  intro pins s σ H v u Q I r h
  exact wpAny_assign_Name (store_ok I hN hi hx r (fun s' I' => ⟨_, H, I', h⟩) hf)
def gNil : TGs := fun vs σ H Q => vs = [] ∧ Q σ H
def gCons (t : TG) (u : TGs) : TGs := fun vs σ H Q => ∃ v r, vs = v :: r ∧ t v σ H fun σ' H' => u r σ' H' Q
theorem pgs_nil : PGs X [] gNil := by
  intro pins s σ H vs us Q I r h
  obtain ⟨e, h⟩ := h
  subst e
  cases r
  exact assignInOrder_nil ⟨σ, H, I, h⟩
theorem pgs_cons {e : Expr} {es : List Expr} {t : TG} {u : TGs} (h1 : PG X e t) (h2 : PGs X es u)
    (hs : (assignEach (e :: es) X.env).map (·.2) = assign e X.env :: (assignEach es X.env).map (·.2) := by rfl) : PGs X (e :: es) (gCons t u) := by
  intro pins s σ H vs us Q I r h
  obtain ⟨v, vr, e1, h⟩ := h
  subst e1
  cases r with
  | cons r rr =>
    rw [hs]
    refine assignInOrder_cons (thn (h1 pins s σ H _ _ _ I r h) fun _ s1 ⟨σ1, H1, I1, q1⟩ => ?_)
    exact h2 pins s1 σ1 H1 _ _ Q I1 rr q1
def gTup (K : PySem.W.Frag) (n : Nat) (t : TGs) : TG := fun v σ H Q => ∃ a xs, v = .ref a ∧ SqT K H a xs ∧ xs.length = n ∧ t xs σ H Q
theorem pg_tup {es : List Expr} {k : Nat} {t : TGs} {n : Nat} (hc : X.calm = true) (h : PGs X es t)
    (hn : (assignEach es X.env).length = n := by rfl) (hst : (assignEach es X.env).findIdx? (·.1) = none := by rfl) : PG X (.Tuple es k pos) (gTup X.K n t) := by
  intro pins s σ H v u Q I r hw
  obtain ⟨a, xs, e1, hq, hl, hw⟩ := hw
  subst e1
  cases r
  obtain ⟨its, rv, ht, hz⟩ := I.tuple hq
  refine assign_Tuple_tuple (I.ok.hd hc) ht (by simp [hn, ← hl, rv.length]) hst fun h' hx => ?_
  have I1 : Inv X pins σ H { s with heap := h' } := I.kept (t' := s.toks) fun b o e => hx b o (Nat.ne_of_lt (Heap.lt_size e)) e
  exact h pins _ σ H xs _ Q I1 (by simpa using rv) hw
def tAsg (te : TE) (g : TG) : TS := fun D σ H => te σ H fun x H1 => g x σ H1 D.nx
theorem ps_asg {tg e : Expr} {te : TE} {g : TG} (he : PE X e te) (hg : PG X tg g) (hs : swapsWithSole [tg] e pos.line X.env = pure false := by rfl) (hw : swappedStores [tg] e X.env = pure none := by rfl)
    (h1 : (assignEach [tg] X.env).map (·.2) = [assign tg X.env] := by rfl) : PS X (.Assign [tg] e pos) (tAsg te g) := by
  intro pins s σ H D I h
  refine wpAny_Assign_stores (thn (he pins s σ H _ I h) fun v s1 ⟨x, H1, I1, r1, q1⟩ => ?_) hs hw
  rw [h1]
  exact thn (hg pins s1 σ H1 x v _ I1 r1 q1) fun _ s2 q => q
theorem ps_set {i : Nat} {x : Str} {e : Expr} {te : TE} {pos' : Pos} (hN : X.N.Nodup) (hi : X.N[i]? = some x) (hx : Loc X.env.scope x) (he : PE X e te) (hs : swapsWith e (some (.Name x pos')) pos.line X.env = pure false := by rfl) (hf : X.fn x = true ∨ X.env.scope.names.lookup x = some .local := by first | exact .inl rfl | exact .inr rfl | assumption) :
    PS X (.Assign [.Name x pos'] e pos) (tAsg te (gName i)) := by
  intro pins s σ H D I h
  refine wpAny_Assign_Name (thn (he pins s σ H _ I h) fun v s1 ⟨y, H1, I1, r1, q1⟩ => ?_) hs
  exact store_ok I1 hN hi hx r1 (fun s2 I2 => ⟨_, H1, I2, q1⟩) hf
end
section
variable {X : Cx} {pos : Pos}
def tWhile (c : TT) (tb : TS) : TS := fun D σ H => ∃ W : Nat → St → Hp → Prop, (∃ m, W m σ H) ∧ ∀ m σ H, W m σ H →
  c σ H fun b H1 => if b = true then ∃ N : St → Hp → Prop, (∀ σ' H', N σ' H' → ∃ m', m' < m ∧ W m' σ' H') ∧ tb { D with nx := N, ct := N, bk := D.nx } σ H1 else D.nx σ H1
theorem ps_while {c : Expr} {body : List Stmt} {tc : TT} {tb : TS} (hp : PassesOwn (model X.prog X.w) X.A X.env X.xe) (hc : PT X c tc) (hb : PSs X body tb) : PS X (.While c body [] pos) (tWhile tc tb) := by
  intro pins s σ H D I h
  obtain ⟨W, ⟨m0, w0⟩, turn⟩ := h
  refine wpAny_While (codeAny_whileLoop (fun n s' => ∃ σ' H', Inv X pins σ' H' s' ∧ W n σ' H') ?_ m0 ⟨σ, H, I, w0⟩)
  rintro n s1 ⟨σ1, H1, I1, w1⟩
  refine wpAny_passesOwn hp (thn (hc pins s1 σ1 H1 _ I1 (turn n σ1 H1 w1)) fun b s2 ⟨H2, I2, q2⟩ => ?_)
  cases b with
  | true =>
    obtain ⟨N, hN, q2⟩ := q2
    rw [if_pos rfl]
    refine wpAny_passesOwn hp (thn (hb pins s2 σ1 H2 _ I2 q2) fun f s3 q3 => ?_)
    cases f with
    | next =>
      obtain ⟨σ3, H3, I3, n3⟩ := q3
      obtain ⟨m', hm, w3⟩ := hN σ3 H3 n3
      exact ⟨m', hm, σ3, H3, I3, w3⟩
    | cont =>
      obtain ⟨σ3, H3, I3, n3⟩ := q3
      obtain ⟨m', hm, w3⟩ := hN σ3 H3 n3
      exact ⟨m', hm, σ3, H3, I3, w3⟩
    | brk => exact q3
    | ret v => exact q3
  | false =>
    rw [if_neg Bool.false_ne_true]
    exact wpAny_execs_nil ⟨σ1, H2, I2, q2⟩
end
structure It where
  go : Nat → Hp → Prop
  yld : Nat → Hp → V → Hp → Prop
  stop : Nat → Hp → Prop
def FpOk (X : Cx) (pins : List (Addr × Obj)) (H : Hp) (b : Addr) : Prop :=
  H b = none ∧ b ≠ X.env.locals ∧ b ∉ X.fs ∧ (b ∈ X.ex ∨ X.s₀.heap.objs.size ≤ b) ∧ (∀ x c, X.env.cells.lookup x = some c → c ≠ b) ∧ ∀ p ∈ X.pn ++ pins, p.1 ≠ b
theorem Inv.fpOk {X : Cx} {pins : List (Addr × Obj)} {σ : St} {H H' : Hp} {s : Shared} {b : Addr} (I : Inv X pins σ H s) (hb : s.heap.objs.size ≤ b) (hn : H' b = none) : FpOk X pins H' b := by
  refine ⟨hn, Nat.ne_of_gt (Nat.lt_of_lt_of_le I.lt hb), I.nofs hb, .inr (Nat.le_trans I.sz hb), fun x c e z => ?_, fun p hp z => ?_⟩
  · obtain ⟨v, q⟩ := I.cell x c e
    exact absurd (Nat.lt_of_lt_of_le q.lt (by rw [z]; exact hb)) (Nat.lt_irrefl _)
  · exact absurd (Nat.lt_of_lt_of_le (Heap.lt_size (I.pin p hp).1) (by rw [z]; exact hb)) (Nat.lt_irrefl _)
structure Turn0 (Cc : Cx → Prop) (P : Program) (w : World) (K : PySem.W.Frag) (tg : Expr) (J : It) (fp : List Addr) (it : Addr) (tn : Nat → Heap → Prop) : Prop where
  mem : it ∈ fp
  obj : ∀ i h, tn i h → ∀ b ∈ fp, ∃ o, h.get? b = some o ∧ ∀ v, o.data ≠ .cell v
  keep : ∀ i h h', tn i h → (∀ b ∈ fp, ∀ o, h.get? b = some o → h'.get? b = some o) → tn i h'
  item : ∀ (X : Cx), X.prog = P → X.w = w → X.K = K → Cc X → ∀ (i : Nat) (pins : List (Addr × Obj)) (s : Shared) (σ : St) (H : Hp) (E : Value → Shared → Prop), Inv X pins σ H s → (∀ b ∈ fp, FpOk X pins H b) → tn i s.heap → J.go i H →
    wpAny (model P w) X.A (pyNext (.ref it)) (fun r s1 => ∃ u, r = some u ∧
      wpAny (model P w) X.A (letOwnedTupleGo tg (.ref it) u) (fun _ s2 => ∃ x H', Inv X pins σ H' s2 ∧ RelV x u ∧ J.yld i H x H' ∧ tn (i + 1) s2.heap ∧ ∀ b ∈ fp, H' b = none) E s1) E s
  done : ∀ (X : Cx), X.prog = P → X.w = w → X.K = K → Cc X → ∀ (i : Nat) (pins : List (Addr × Obj)) (s : Shared) (σ : St) (H : Hp) (E : Value → Shared → Prop), Inv X pins σ H s → (∀ b ∈ fp, FpOk X pins H b) → tn i s.heap → J.stop i H →
    wpAny (model P w) X.A (pyNext (.ref it)) (fun r s1 => r = none ∧ Inv X pins σ H s1) E s
  self : ∀ (A : Around) (i : Nat) (s : Shared) (Q : Value → Shared → Prop) (E : Value → Shared → Prop), tn i s.heap → Q (.ref it) s → wpAny (model P w) A (pyIter (.ref it)) Q E s
abbrev Turn := Turn0 fun X => X.calm = true
abbrev TI := St → Hp → (It → Hp → Prop) → Prop
def PIE0 (Cc : Cx → Prop) (X : Cx) (pins : List (Addr × Obj)) (σ : St) (tg : Expr) (R : It → Hp → Prop) (itv : Value) (s2 : Shared) : Prop :=
  ∃ (it : Addr) (fp : List Addr) (tn : Nat → Heap → Prop) (J : It) (H' : Hp), itv = .ref it ∧ Inv X pins σ H' s2 ∧ Turn0 Cc X.prog X.w X.K tg J fp it tn ∧ tn 0 s2.heap ∧ (∀ b ∈ fp, FpOk X pins H' b) ∧ R J H'
def PI0 (Cc : Cx → Prop) (X : Cx) (tg iter : Expr) (wi : TI) : Prop :=
  ∀ (pins : List (Addr × Obj)) (s : Shared) (σ : St) (H : Hp) (R : It → Hp → Prop), Inv X pins σ H s → wi σ H R →
    wpAny (model X.prog X.w) X.A (eval iter X.env) (fun v s1 => wpAny (model X.prog X.w) X.A (pyIter v) (PIE0 Cc X pins σ tg R) X.xe s1) X.xe s
abbrev PIE := PIE0 fun X => X.calm = true
abbrev PI := PI0 fun X => X.calm = true
theorem go_of {M : Model} {A : Around} {E : Value → Shared → Prop} {s : Shared} {tg : Expr} {it : Addr} {u : Value} {o : Obj} {n : String} {vs : Array Value} {Q : Unit → Shared → Prop} (ho : s.heap.get? it = some o) (hc : o.cls = .type n) (hd : o.data = .fields vs)
    (hn : ["enumerate", "zip", "dict_itemiterator", "dict_reverseitemiterator", "odict_iterator", "itertools.zip_longest", "itertools.pairwise"].contains n = false) (hQ : Q () s) : wpAny M A (letOwnedTupleGo tg (.ref it) u) Q E s := by
  unfold letOwnedTupleGo
  cases tg <;> first
    | exact wpAny_pure hQ
    | (cases u <;> first
        | exact wpAny_pure hQ
        | (refine wpAny_bind (wpAny_load ho ?_)
           rw [hc, hd]
           show wpAny M A (if (["enumerate", "zip", "dict_itemiterator", "dict_reverseitemiterator", "odict_iterator", "itertools.zip_longest", "itertools.pairwise"].contains n && vs[0]? == some (rawInt _)) = true then _ else _) Q E s
           rw [if_neg (by intro h; rw [hn, Bool.false_and] at h; cases h)]
           exact wpAny_pure hQ))
def Itl (K : PySem.W.Frag) (a : Addr) : It :=
  ⟨fun i H => ∃ xs x, SqL K H a xs ∧ xs[i]? = some x, fun i H x H' => H' = H ∧ ∀ xs, SqL K H a xs → xs[i]? = some x, fun i H => ∃ xs, SqL K H a xs ∧ xs.length ≤ i⟩
def Itr (lo : Int) (n : Nat) : It := ⟨fun i _ => i < n, fun i H x H' => H' = H ∧ x = .int (lo + i), fun i _ => n ≤ i⟩
theorem turn_list {P : Program} {w : World} {K : PySem.W.Frag} {tg : Expr} (a it : Addr) : Turn P w K tg (Itl K a) [it] it (fun i h => h.IsListIter it a i) where
  mem := by simp
  obj := fun i h st b hb => by
    have e : b = it := by simpa using hb
    subst e
    obtain ⟨o, e, c, d⟩ := st
    exact ⟨o, e, fun v z => by rw [d] at z; cases z⟩
  keep := fun i h h' st k => st.at fun o e => k it (by simp) o e
  item := by
    intro X hP hw hK hc i pins s σ H E I hf st hg
    subst hP hw hK
    obtain ⟨xs, x, hq, hx⟩ := hg
    obtain ⟨its, rv, p, hz⟩ := I.list hq
    obtain ⟨u, hu, ru⟩ := rv.get hx
    obtain ⟨f0, f1, f2, f3, f4, f5⟩ := hf it (by simp)
    refine wpAny_pyNext_list_item st p.isList (x := u) (by simpa using hu) fun h' st' sb => ?_
    have I1 : Inv X pins σ H { s with heap := h' } := I.turned (t' := s.toks) (fun b o hb e => (sb.2 b hb).trans e) f0 f1 f3 f4 f5
    obtain ⟨o, e, c, d⟩ := id st'
    exact ⟨u, rfl, go_of (s := { s with heap := h' }) e c d (by decide) ⟨x, H, I1, ru, ⟨rfl, fun ys hy => by rw [I.list_inj hy hq]; exact hx⟩, st', fun b hb => (hf b hb).1⟩⟩
  done := by
    intro X hP hw hK hc i pins s σ H E I hf st hg
    subst hP hw hK
    obtain ⟨xs, hq, hx⟩ := hg
    obtain ⟨its, rv, p, hz⟩ := I.list hq
    obtain ⟨f0, f1, f2, f3, f4, f5⟩ := hf it (by simp)
    have hl := rv.length
    exact wpAny_pyNext_list_end (I.ok.hd hc) st p.isList (by simp; omega) fun h' eb => ⟨rfl, I.turned (t' := s.toks) (fun b o hb e => eb b o hb e) f0 f1 f3 f4 f5⟩
  self := fun _ _ _ _ _ st h => wpAny_pyIter_listiter st h
theorem turn_range {P : Program} {w : World} {K : PySem.W.Frag} {tg : Expr} (it : Addr) (lo : Int) (n : Nat) : Turn P w K tg (Itr lo n) [it] it (fun i h => IsRangeIter h it (lo + (i : Nat) * 1) ((n : Int) - (i : Nat)) 1) where
  mem := by simp
  obj := fun i h st b hb => by
    have e : b = it := by simpa using hb
    subst e
    exact ⟨_, st, fun v z => by
      have z' : Data.fields _ = Data.cell v := z
      cases z'⟩
  keep := fun i h h' st k => k it (by simp) _ st
  item := by
    intro X hP hw hK hc i pins s σ H E I hf st hg
    subst hP hw hK
    obtain ⟨f0, f1, f2, f3, f4, f5⟩ := hf it (by simp)
    have W := Walks.range (prog := X.prog) (w := X.w) (I.ok.hd hc) it lo 1 n
    refine W.item i s _ _ hg st fun v h' tk hv st' kk => ?_
    obtain ⟨t, rfl⟩ := hv
    have I1 : Inv X pins σ H { s with heap := h', toks := tk } := I.turned (fun b o hb e => kk b o (by simpa using hb) e) f0 f1 f3 f4 f5
    refine ⟨_, rfl, go_of (s := { s with heap := h', toks := tk }) (n := "range_iterator") st' rfl rfl (by decide) ⟨.int (lo + i), H, I1, ⟨t, ?_⟩, ⟨rfl, rfl⟩, st', fun b hb => (hf b hb).1⟩⟩
    rw [Int.mul_one]
  done := by
    intro X hP hw hK hc i pins s σ H E I hf st hg
    subst hP hw hK
    obtain ⟨f0, f1, f2, f3, f4, f5⟩ := hf it (by simp)
    exact wpAny_pyNext_range_end (I.ok.hd hc) st (by have : n ≤ i := hg; omega) fun h' eb => ⟨rfl, I.turned (t' := s.toks) (fun b o hb e => eb b o hb e) f0 f1 f3 f4 f5⟩
  self := fun _ _ _ _ _ st h => wpAny_pyIter_rangeiter st h
end L2
namespace L2
open PySem PySem.Spec PyProof.Rows
section
variable {X : Cx} {tg : Expr}
def iList (K : PySem.W.Frag) (tl : TE) : TI := fun σ H R => tl σ H fun x H1 => ∃ a, x = .ref a ∧ (∃ xs, SqL K H1 a xs) ∧ R (Itl K a) H1
theorem pi_list {l : Expr} {tl : TE} (hl : PE X l tl) : PI X tg l (iList X.K tl) := by
  intro pins s σ H R I h
  refine thn (hl pins s σ H _ I h) fun v s1 ⟨x, H1, I1, r1, q1⟩ => ?_
  obtain ⟨a, e, ⟨xs, hq⟩, q⟩ := q1
  subst e
  cases r1
  obtain ⟨its, rv, p, hz⟩ := I1.list hq
  refine wpAny_pyIter_list p.isList ?_
  refine ⟨s1.heap.objs.size, [s1.heap.objs.size], _, _, H1, rfl, I1.kept (t' := s1.toks) fun b o e => Heap.get?_push_of_some _ e, turn_list a _, ⟨_, Heap.get?_push_size _ rfl, rfl, rfl⟩, fun b hb => ?_, q⟩
  have e : b = s1.heap.objs.size := by simpa using hb
  subst e
  exact I1.fpOk (Nat.le_refl _) (I1.hok.fresh (Nat.le_refl _))
theorem range_it {pins : List (Addr × Obj)} {σ : St} {H : Hp} {s : Shared} {R : It → Hp → Prop} {E : Value → Shared → Prop} {lo hi : Int} {t u v : Tok} {tk : Nat} (I : Inv X pins σ H s) (h1 : -(2 ^ 62) ≤ lo) (h2 : lo < 2 ^ 62) (h3 : -(2 ^ 62) ≤ hi) (h4 : hi < 2 ^ 62)
    (q : R (Itr lo (hi - lo).toNat) H) : wpAny (model X.prog X.w) X.A (pyIter (.ref s.heap.objs.size)) (PIE X pins σ tg R) E { s with heap := s.heap.push { cls := .type "range", data := .fields #[.int lo t, .int hi u, .int 1 v] }, toks := tk } := by
  refine wpAny_pyIter_range (IsRange.new ..) (small_one h1 h2 h3 h4) ?_
  have I1 : Inv X pins σ H { s with heap := s.heap.push { cls := .type "range", data := .fields #[.int lo t, .int hi u, .int 1 v] }, toks := tk } := I.kept fun b o e => Heap.get?_push_of_some _ e
  refine ⟨(s.heap.push { cls := .type "range", data := .fields #[.int lo t, .int hi u, .int 1 v] }).objs.size, [(s.heap.push { cls := .type "range", data := .fields #[.int lo t, .int hi u, .int 1 v] }).objs.size], _, _, H, rfl,
    I1.kept (t' := tk) fun b o e => Heap.get?_push_of_some _ e, turn_range _ lo (hi - lo).toNat, ?_, fun b hb => ?_, q⟩
  · have e1 : lo + ((0 : Nat) : Int) * 1 = lo := by simp
    have e2 : (((hi - lo).toNat : Nat) : Int) - ((0 : Nat) : Int) = Builtin.Range.rangeSize lo hi 1 := by rw [rangeSize_one]; split <;> omega
    show IsRangeIter _ _ (lo + ((0 : Nat) : Int) * 1) ((((hi - lo).toNat : Nat) : Int) - ((0 : Nat) : Int)) 1
    rw [e1, e2]
    exact Heap.get?_push_size _ rfl
  · have e : b = (s.heap.push { cls := .type "range", data := .fields #[.int lo t, .int hi u, .int 1 v] }).objs.size := by simpa using hb
    subst e
    exact I1.fpOk (Nat.le_refl _) (I1.hok.fresh (Nat.le_refl _))
def iRng1 (ta : TA) : TI := fun σ H R => ta σ H fun vs H1 => ∃ j : Int, vs = [.int j] ∧ -(2 ^ 62) ≤ j ∧ j < 2 ^ 62 ∧ R (Itr 0 j.toNat) H1
def iRng2 (ta : TA) : TI := fun σ H R => ta σ H fun vs H1 => ∃ i j : Int, vs = [.int i, .int j] ∧ (-(2 ^ 62) ≤ i ∧ i < 2 ^ 62 ∧ -(2 ^ 62) ≤ j ∧ j < 2 ^ 62) ∧ R (Itr i (j - i).toNat) H1
theorem pi_range1 {a : Expr} {ta : TA} {p pos : Pos} (hg : Gl X "range") (hm : X.mg "range" = none) (ha : PA X [a] ta) (hs : starEach [a] X.env = [(false, eval a X.env)] := by rfl) : PI X tg (.Call (.Name "range" p) [a] [] pos) (iRng1 ta) := by
  intro pins s σ H R I h
  refine Call_ (ld_blt I hg hm boot_range (PyProof.Rows.callWith_type1 (thn (ha pos pins s σ H _ I h) fun us s1 ⟨vs, H1, I1, r1, q1⟩ => ?_) hs rfl))
  obtain ⟨j, e, q1, q2, q⟩ := q1
  subst e
  cases r1 with
  | cons r rr =>
    cases rr
    obtain ⟨t, rfl⟩ := r
    exact call_range_1 (range_it I1 (by omega) (by omega) q1 q2 (by simpa using q))
theorem pi_range2 {a b : Expr} {ta : TA} {p pos : Pos} (hg : Gl X "range") (hm : X.mg "range" = none) (ha : PA X [a, b] ta) (hs : starEach [a, b] X.env = [(false, eval a X.env), (false, eval b X.env)] := by rfl) (hs2 : starEach [b] X.env = [(false, eval b X.env)] := by rfl) :
    PI X tg (.Call (.Name "range" p) [a, b] [] pos) (iRng2 ta) := by
  intro pins s σ H R I h
  refine Call_ (ld_blt I hg hm boot_range (PyProof.Rows.callWith_type1 (thn (ha pos pins s σ H _ I h) fun us s1 ⟨vs, H1, I1, r1, q1⟩ => ?_) (by rw [hs, hs2]) (by rw [hs2]; rfl)))
  obtain ⟨i, j, e, ⟨q1, q2, q3, q4⟩, q⟩ := q1
  subst e
  cases r1 with
  | cons r rr =>
    cases rr with
    | cons r' rr =>
      cases rr
      obtain ⟨t, rfl⟩ := r
      obtain ⟨t', rfl⟩ := r'
      exact call_range_2 (range_it I1 q1 q2 q3 q4 q)
def tFor (wi : TI) (g : TG) (tb : TS) : TS := fun D σ H => wi σ H fun J H1 => ∃ W : Nat → Nat → St → Hp → Prop, (∃ m, W 0 m σ H1) ∧ ∀ i m σ H, W i m σ H →
  (J.stop i H ∧ D.nx σ H) ∨ (J.go i H ∧ ∃ N : St → Hp → Prop, (∀ σ' H', N σ' H' → ∃ m', m' < m ∧ W (i + 1) m' σ' H') ∧ ∀ x H', J.yld i H x H' → g x σ H' fun σ2 H2 => tb { D with nx := N, ct := N, bk := D.nx } σ2 H2)
def pinsAt (fp : List Addr) (h : Heap) : List (Addr × Obj) := fp.filterMap fun b => (h.get? b).map fun o => (b, o)
theorem mem_pinsAt {fp : List Addr} {h : Heap} {b : Addr} {o : Obj} (hb : b ∈ fp) (e : h.get? b = some o) : (b, o) ∈ pinsAt fp h := List.mem_filterMap.mpr ⟨b, hb, by rw [e]; rfl⟩
theorem of_pinsAt {fp : List Addr} {h : Heap} {p : Addr × Obj} (hp : p ∈ pinsAt fp h) : p.1 ∈ fp ∧ h.get? p.1 = some p.2 := by
  obtain ⟨b, hb, e⟩ := List.mem_filterMap.mp hp
  cases q : h.get? b with
  | none => rw [q] at e; cases e
  | some o =>
    rw [q] at e
    have e' : (b, o) = p := Option.some.inj e
    subst e'
    exact ⟨hb, q⟩
theorem Inv.pinned {pins : List (Addr × Obj)} {σ : St} {H : Hp} {s : Shared} {fp : List Addr} (I : Inv X pins σ H s) (hf : ∀ b ∈ fp, FpOk X pins H b) (ho : ∀ b ∈ fp, ∃ o, s.heap.get? b = some o ∧ ∀ v, o.data ≠ .cell v) : Inv X (pins ++ pinsAt fp s.heap) σ H s :=
  I.pins_of fun p hp => (List.mem_append.mp hp).elim (fun z => I.pin p (List.mem_append_right _ z)) fun z => by
    obtain ⟨hb, e⟩ := of_pinsAt z
    obtain ⟨f0, f1, f2, _⟩ := hf p.1 hb
    obtain ⟨o, e', d⟩ := ho p.1 hb
    rw [e] at e'; cases e'
    exact ⟨e, f0, f1, f2, d⟩
theorem Inv.unpinned {pins pl : List (Addr × Obj)} {σ : St} {H : Hp} {s : Shared} (I : Inv X (pins ++ pl) σ H s) : Inv X pins σ H s := I.pins_of fun p hp => I.pin p (List.mem_append_right _ (List.mem_append_left _ hp))
theorem ps_for {iter : Expr} {body : List Stmt} {wi : TI} {g : TG} {tb : TS} {pos : Pos} (hp : PassesOwn (model X.prog X.w) X.A X.env X.xe) (hc : X.calm = true) (hi : PI X tg iter wi) (hg : PG X tg g) (hb : PSs X body tb)
    (hs : ∀ x, foldedSetIterable iter X.env x = pure x := by intro _; rfl) : PS X (.For tg iter body [] pos) (tFor wi g tb) := by
  intro pins s σ H D I h
  refine wpAny_For (thn (hi pins s σ H _ I h) fun v s1 h1 => thn h1 fun itv s2 h2 => ?_) hs
  obtain ⟨it, fp, tn, J, H2, e, I2, T, st2, f2, W, ⟨m0, w0⟩, turn⟩ := h2
  subst e
  have stat : ∀ {H' : Hp}, (∀ b ∈ fp, H' b = none) → ∀ b ∈ fp, FpOk X pins H' b := fun hn b hb => ⟨hn b hb, (f2 b hb).2⟩
  refine codeAny_forLoop_any (fun n s' => ∃ i σ' H', Inv X pins σ' H' s' ∧ tn i s'.heap ∧ (∀ b ∈ fp, H' b = none) ∧ W i n σ' H') ?_ m0 ⟨0, σ, H2, I2, st2, fun b hb => (f2 b hb).1, w0⟩
  rintro n s3 ⟨i, σ3, H3, I3, st3, fr3, w3⟩
  rcases turn i n σ3 H3 w3 with ⟨stop, qn⟩ | ⟨go, N, hN, step⟩
  · refine wpAny_passesOwn hp (thn (T.done X rfl rfl rfl hc i pins s3 σ3 H3 X.xe I3 (stat fr3) st3 stop) fun r s4 ⟨hr, I4⟩ => ?_)
    subst hr
    exact wpAny_execs_nil ⟨σ3, H3, I4, qn⟩
  · refine wpAny_passesOwn hp (thn (T.item X rfl rfl rfl hc i pins s3 σ3 H3 X.xe I3 (stat fr3) st3 go) fun r s4 ⟨u, hr, h4⟩ => ?_)
    subst hr
    refine wpAny_passesOwn hp (thn h4 fun _ s5 ⟨x, H5, I5, r5, y5, st5, fr5⟩ => ?_)
    have I5' := I5.pinned (stat fr5) (T.obj _ _ st5)
    refine wpAny_passesOwn hp (thn (hg _ s5 σ3 H5 x u _ I5' r5 (step x H5 y5)) fun _ s6 ⟨σ6, H6, I6, q6⟩ => ?_)
    refine wpAny_passesOwn hp (thn (hb _ s6 σ6 H6 _ I6 q6) fun f s7 q7 => ?_)
    have again : ∀ {σ7 : St} {H7 : Hp}, Inv X (pins ++ pinsAt fp s5.heap) σ7 H7 s7 → N σ7 H7 → ∃ m, m < n ∧ ∃ i σ' H', Inv X pins σ' H' s7 ∧ tn i s7.heap ∧ (∀ b ∈ fp, H' b = none) ∧ W i m σ' H' := fun {σ7 H7} I7 n7 => by
      obtain ⟨m', hm, w7⟩ := hN σ7 H7 n7
      refine ⟨m', hm, i + 1, σ7, H7, I7.unpinned, T.keep _ _ _ st5 fun b hb o e => (I7.pin (b, o) (List.mem_append_right _ (List.mem_append_right _ (mem_pinsAt hb e)))).1, fun b hb => ?_, w7⟩
      obtain ⟨o, e, d⟩ := T.obj _ _ st5 b hb
      exact (I7.pin (b, o) (List.mem_append_right _ (List.mem_append_right _ (mem_pinsAt hb e)))).2.1
    cases f with
    | next => obtain ⟨σ7, H7, I7, n7⟩ := q7; exact again I7 n7
    | cont => obtain ⟨σ7, H7, I7, n7⟩ := q7; exact again I7 n7
    | brk => obtain ⟨σ7, H7, I7, q7⟩ := q7; exact ⟨σ7, H7, I7.unpinned, q7⟩
    | ret v => obtain ⟨x7, σ7, H7, I7, r7, q7⟩ := q7; exact ⟨x7, σ7, H7, I7.unpinned, r7, q7⟩
end
theorem for_list {K : PySem.W.Frag} {a : Addr} {xs : List V} {g : TG} {tb : TS} {D : Ends} {σ : St} {H : Hp} (Pv : Nat → St → Hp → Prop) (h0 : Pv 0 σ H) (hl : ∀ i σ H, i ≤ xs.length → Pv i σ H → SqL K H a xs)
    (hs : ∀ i x σ H, xs[i]? = some x → Pv i σ H → g x σ H fun σ2 H2 => tb { D with nx := Pv (i + 1), ct := Pv (i + 1), bk := D.nx } σ2 H2) (hd : ∀ σ H, Pv xs.length σ H → D.nx σ H) :
    ∃ W : Nat → Nat → St → Hp → Prop, (∃ m, W 0 m σ H) ∧ ∀ i m σ H, W i m σ H →
      ((Itl K a).stop i H ∧ D.nx σ H) ∨ ((Itl K a).go i H ∧ ∃ N : St → Hp → Prop, (∀ σ' H', N σ' H' → ∃ m', m' < m ∧ W (i + 1) m' σ' H') ∧ ∀ x H', (Itl K a).yld i H x H' → g x σ H' fun σ2 H2 => tb { D with nx := N, ct := N, bk := D.nx } σ2 H2) := by
  refine ⟨fun i m σ H => m = xs.length - i ∧ i ≤ xs.length ∧ Pv i σ H, ⟨xs.length, by simp, Nat.zero_le _, h0⟩, ?_⟩
  rintro i m σ H ⟨rfl, hi, p⟩
  have q := hl i σ H hi p
  by_cases hlt : i < xs.length
  · refine .inr ⟨⟨xs, xs[i], q, by simp [hlt]⟩, Pv (i + 1), fun σ' H' p' => ⟨xs.length - (i + 1), by omega, rfl, hlt, p'⟩, fun x H' y => ?_⟩
    obtain ⟨e, y⟩ := y
    subst e
    exact hs i x σ _ (y xs q) p
  · have e : i = xs.length := by omega
    subst e
    exact .inl ⟨⟨xs, q, Nat.le_refl _⟩, hd σ H p⟩
theorem for_range {lo : Int} {n : Nat} {g : TG} {tb : TS} {D : Ends} {σ : St} {H : Hp} (Pv : Nat → St → Hp → Prop) (h0 : Pv 0 σ H)
    (hs : ∀ i σ H, i < n → Pv i σ H → g (.int (lo + i)) σ H fun σ2 H2 => tb { D with nx := Pv (i + 1), ct := Pv (i + 1), bk := D.nx } σ2 H2) (hd : ∀ σ H, Pv n σ H → D.nx σ H) :
    ∃ W : Nat → Nat → St → Hp → Prop, (∃ m, W 0 m σ H) ∧ ∀ i m σ H, W i m σ H →
      ((Itr lo n).stop i H ∧ D.nx σ H) ∨ ((Itr lo n).go i H ∧ ∃ N : St → Hp → Prop, (∀ σ' H', N σ' H' → ∃ m', m' < m ∧ W (i + 1) m' σ' H') ∧ ∀ x H', (Itr lo n).yld i H x H' → g x σ H' fun σ2 H2 => tb { D with nx := N, ct := N, bk := D.nx } σ2 H2) := by
  refine ⟨fun i m σ H => m = n - i ∧ i ≤ n ∧ Pv i σ H, ⟨n, by simp, Nat.zero_le _, h0⟩, ?_⟩
  rintro i m σ H ⟨rfl, hi, p⟩
  by_cases hlt : i < n
  · refine .inr ⟨hlt, Pv (i + 1), fun σ' H' p' => ⟨n - (i + 1), by omega, rfl, hlt, p'⟩, fun x H' y => ?_⟩
    obtain ⟨e, y⟩ := y
    subst e y
    exact hs i σ _ hlt p
  · have e : i = n := by omega
    subst e
    exact .inl ⟨Nat.le_refl _, hd σ H p⟩
end L2
namespace L2
open PySem PySem.Spec PyProof.Rows
abbrev R2 := V → V → Hp → VK → Prop
def OpR (X : Cx) (f : Value → Value → Sem Value) (r : R2) : Prop :=
  ∀ (pins : List (Addr × Obj)) (s : Shared) (σ : St) (H : Hp) (x y : V) (v u : Value) (Q : VK), Inv X pins σ H s → RelV x v → RelV y u → r x y H Q →
    wpAny (model X.prog X.w) X.A (f v u) (EP X pins σ Q) X.xe s
def CallR (X : Cx) (f : Value) (r : List V → Hp → VK → Prop) : Prop :=
  ∀ (pins : List (Addr × Obj)) (s : Shared) (σ : St) (H : Hp) (xs : List V) (us : List Value) (Q : VK), Inv X pins σ H s → Vals xs us → r xs H Q →
    wpAny (model X.prog X.w) X.A (call f us) (EP X pins σ Q) X.xe s
def tOp (r : R2) (ta tb : TE) : TE := fun σ H Q => ta σ H fun x H1 => tb σ H1 fun y H2 => r x y H2 Q
def rI (C : Int → Int → Prop) (g : Int → Int → V) : R2 := fun x y H Q => ∃ i j, x = .int i ∧ y = .int j ∧ C i j ∧ Q (g i j) H
def rI0 (g : Int → Int → V) : R2 := fun x y H Q => ∃ i j, x = .int i ∧ y = .int j ∧ Q (g i j) H
section
variable {X : Cx} {a b c : Expr} {ta tb tc : TE} {pos : Pos}
theorem binT (ha : PE X a ta) (hb : PE X b tb) {pins : List (Addr × Obj)} {s : Shared} {σ : St} {H : Hp} {R : V → V → Hp → Prop} (I : Inv X pins σ H s)
    (h : ta σ H fun x H1 => tb σ H1 fun y H2 => R x y H2) {Q : Value → Shared → Prop} {f : Value → Value → Sem Value}
    (hf : ∀ v u s2 x y H2, Inv X pins σ H2 s2 → RelV x v → RelV y u → R x y H2 → wpAny (model X.prog X.w) X.A (f v u) Q X.xe s2) :
    wpAny (model X.prog X.w) X.A (eval a X.env) (fun v s₁ => wpAny (model X.prog X.w) X.A (eval b X.env) (fun u s₂ => wpAny (model X.prog X.w) X.A (f v u) Q X.xe s₂) X.xe s₁) X.xe s := by
  refine thn (ha pins s σ H _ I h) fun v s1 ⟨x, H1, I1, r1, q1⟩ => ?_
  refine thn (hb pins s1 σ H1 _ I1 q1) fun u s2 ⟨y, H2, I2, r2, q2⟩ => ?_
  exact hf v u s2 x y H2 I2 r1 r2 q2
theorem pe_op {op : Operator} {r : R2} (ho : OpR X (binaryOp op) r) (ha : PE X a ta) (hb : PE X b tb) : PE X (.BinOp a op b pos) (tOp r ta tb) := by
  intro pins s σ H Q I h
  exact wpAny_BinOp (binT ha hb I h fun v u s2 x y H2 I2 rx ry q => ho pins s2 σ H2 x y v u Q I2 rx ry q)
theorem opI {f : Value → Value → Sem Value} {C : Int → Int → Prop} {g : Int → Int → Int}
    (rule : ∀ (i j : Int) (t u : Tok) (s : Shared) (Q : Value → Shared → Prop) (E : Value → Shared → Prop), C i j → Q (.int (g i j) s.toks) { s with toks := s.toks + 1 } → wpAny (model X.prog X.w) X.A (f (.int i t) (.int j u)) Q E s) :
    OpR X f (rI C fun i j => .int (g i j)) := by
  intro pins s σ H x y v u Q I rx ry h
  obtain ⟨i, j, rfl, rfl, hc, q⟩ := h
  obtain ⟨t, rfl⟩ := rx
  obtain ⟨t', rfl⟩ := ry
  exact rule i j t t' s _ _ hc ⟨.int (g i j), H, I.tok _, ⟨_, rfl⟩, q⟩
theorem opI0 {f : Value → Value → Sem Value} {g : Int → Int → Int}
    (rule : ∀ (i j : Int) (t u : Tok) (s : Shared) (Q : Value → Shared → Prop) (E : Value → Shared → Prop), Q (.int (g i j) s.toks) { s with toks := s.toks + 1 } → wpAny (model X.prog X.w) X.A (f (.int i t) (.int j u)) Q E s) :
    OpR X f (rI0 fun i j => .int (g i j)) := by
  intro pins s σ H x y v u Q I rx ry h
  obtain ⟨i, j, rfl, rfl, q⟩ := h
  obtain ⟨t, rfl⟩ := rx
  obtain ⟨t', rfl⟩ := ry
  exact rule i j t t' s _ _ ⟨.int (g i j), H, I.tok _, ⟨_, rfl⟩, q⟩
theorem opB0 {f : Value → Value → Sem Value} {g : Int → Int → Bool}
    (rule : ∀ (i j : Int) (t u : Tok) (s : Shared) (Q : Value → Shared → Prop) (E : Value → Shared → Prop), Q (.bool (g i j)) s → wpAny (model X.prog X.w) X.A (f (.int i t) (.int j u)) Q E s) :
    OpR X f (rI0 fun i j => .bl (g i j)) := by
  intro pins s σ H x y v u Q I rx ry h
  obtain ⟨i, j, rfl, rfl, q⟩ := h
  obtain ⟨t, rfl⟩ := rx
  obtain ⟨t', rfl⟩ := ry
  exact rule i j t t' s _ _ ⟨.bl (g i j), H, I, rfl, q⟩
def CDiv (i j : Int) : Prop := 0 < j ∧ j < 1073741824
def CPow (i j : Int) : Prop := 0 ≤ j ∧ j ≤ 1000000 ∧ i.natAbs < 2 ^ 64
def CMul (i j : Int) : Prop := (-(2 ^ 64) < i ∧ i < 2 ^ 64) ∨ (-(2 ^ 64) < j ∧ j < 2 ^ 64)
theorem CMul.ok {i j : Int} (h : CMul i j) : IntMulOk i j := by
  rcases h with ⟨h1, h2⟩ | ⟨h1, h2⟩
  · exact .of_left (intBits_le_64 h1 h2)
  · exact .of_right (intBits_le_64 h1 h2)
theorem op_add : OpR X (binaryOp .Add) (rI0 fun i j => .int (i + j)) := opI0 fun _ _ _ _ _ _ _ q => add_int q
theorem op_sub : OpR X (binaryOp .Sub) (rI0 fun i j => .int (i - j)) := opI0 fun _ _ _ _ _ _ _ q => sub_int q
theorem op_mul : OpR X (binaryOp .Mult) (rI CMul fun i j => .int (i * j)) := opI fun _ _ _ _ _ _ _ hc q => mul_int q hc.ok
theorem op_fdiv : OpR X (binaryOp .FloorDiv) (rI CDiv fun i j => .int (i / j)) := opI fun i j _ _ _ _ _ hc q => by
  have h1 : (0 : Int) < j := hc.1
  have h2 : j < 1073741824 := hc.2
  exact floordiv_int (by omega) (by rw [Int.fdiv_eq_ediv_of_nonneg i (by omega)]; exact q) (.inl (PyProof.noPylong_small (by omega)))
theorem op_mod : OpR X (binaryOp .Mod) (rI (fun _ j => 0 < j) fun i j => .int (i % j)) := opI fun i j _ _ _ _ _ hc q => by
  have h1 : (0 : Int) < j := hc
  exact mod_int' (by omega) (by rw [Int.fmod_eq_emod_of_nonneg i (by omega)]; exact q)
theorem op_pow : OpR X (binaryOp .Pow) (rI CPow fun i j => .int (i ^ j.toNat)) := opI fun _ _ _ _ _ _ _ hc q => pow_int_small hc.1 hc.2.1 hc.2.2 q
end
def scal : V → V → Bool
  | .non, .non => true | .non, .int _ => true | .int _, .non => true | .non, .bl _ => true | .bl _, .non => true | .non, .str _ => true | .str _, .non => true
  | .int _, .int _ => true | .bl _, .bl _ => true | .str _, .str _ => true | .byt _, .byt _ => true
  | .int _, .str _ => true | .str _, .int _ => true | .bl _, .str _ => true | .str _, .bl _ => true
  | _, _ => false
def rEq : R2 := fun x y H Q => scal x y = true ∧ Q (.bl (decide (x = y))) H
def rNe : R2 := fun x y H Q => scal x y = true ∧ Q (.bl (!decide (x = y))) H
theorem dec_int {i j : Int} : decide (V.int i = V.int j) = (i == j) := by
  rw [Bool.eq_iff_iff]
  simp
theorem dec_bl {i j : Bool} : decide (V.bl i = V.bl j) = (i == j) := by
  rw [Bool.eq_iff_iff]
  simp
theorem dec_str {i j : Str} : decide (V.str i = V.str j) = (i == j) := by
  rw [Bool.eq_iff_iff]
  simp
theorem dec_byt {i j : Array UInt8} : decide (V.byt i = V.byt j) = (i.toList == j.toList) := by
  rw [Bool.eq_iff_iff]
  cases i
  cases j
  simp
section
variable {X : Cx} {a b c : Expr} {ta tb tc : TE} {pos : Pos}
theorem fin_bl {pins : List (Addr × Obj)} {σ : St} {H : Hp} {s : Shared} {Q : VK} {k k' : Bool} (I : Inv X pins σ H s) (q : Q (.bl k) H) (e : k = k') : EP X pins σ Q (.bool k') s := by
  subst e
  exact ⟨.bl k, H, I, rfl, q⟩
theorem op_eq : OpR X (compareOp .Eq) rEq := by
  intro pins s σ H x y v u Q I rx ry h
  obtain ⟨hs, q⟩ := h
  cases x with
  | non =>
    cases rx
    cases y with
    | non => cases ry; exact PySem.EqNone.eq_none_none (fin_bl I q (by simp))
    | bl j => cases ry; exact PySem.EqNone.eq_none_bool (fin_bl I q (by simp))
    | int j => obtain ⟨t', rfl⟩ := ry; exact PySem.EqNone.eq_none_int (fin_bl I q (by simp))
    | str j => obtain ⟨t', rfl⟩ := ry; exact PySem.EqNone.eq_none_str (fin_bl I q (by simp))
    | _ => exact absurd (show false = true from hs) Bool.false_ne_true
  | bl i =>
    cases rx
    cases y with
    | non => cases ry; exact PySem.EqNone.eq_bool_none (fin_bl I q (by simp))
    | bl j => cases ry; exact eq_bool (fin_bl I q dec_bl)
    | str j => obtain ⟨t', rfl⟩ := ry; exact PySem.EqMixed.eq_bool_str (fin_bl I q (by simp))
    | _ => exact absurd (show false = true from hs) Bool.false_ne_true
  | int i =>
    obtain ⟨t, rfl⟩ := rx
    cases y with
    | non => cases ry; exact PySem.EqNone.eq_int_none (fin_bl I q (by simp))
    | int j => obtain ⟨t', rfl⟩ := ry; exact eq_int (fin_bl I q dec_int)
    | str j => obtain ⟨t', rfl⟩ := ry; exact PySem.EqMixed.eq_int_str (fin_bl I q (by simp))
    | _ => exact absurd (show false = true from hs) Bool.false_ne_true
  | str i =>
    obtain ⟨t, rfl⟩ := rx
    cases y with
    | non => cases ry; exact PySem.EqNone.eq_str_none (fin_bl I q (by simp))
    | bl j => cases ry; exact PySem.EqMixed.eq_str_bool (fin_bl I q (by simp))
    | int j => obtain ⟨t', rfl⟩ := ry; exact PySem.EqMixed.eq_str_int (fin_bl I q (by simp))
    | str j => obtain ⟨t', rfl⟩ := ry; exact eq_str (fin_bl I q dec_str)
    | _ => exact absurd (show false = true from hs) Bool.false_ne_true
  | byt i =>
    obtain ⟨t, rfl⟩ := rx
    cases y with
    | byt j => obtain ⟨t', rfl⟩ := ry; exact PySem.W.eq_bytes (fin_bl I q dec_byt)
    | _ => exact absurd (show false = true from hs) Bool.false_ne_true
  | _ => cases y <;> exact absurd (show false = true from hs) Bool.false_ne_true
theorem op_ne : OpR X (compareOp .NotEq) rNe := by
  intro pins s σ H x y v u Q I rx ry h
  obtain ⟨hs, q⟩ := h
  cases x with
  | non =>
    cases rx
    cases y with
    | non => cases ry; exact PySem.EqNone.ne_none_none (fin_bl I q (by simp))
    | bl j => cases ry; exact PySem.EqNone.ne_none_bool (fin_bl I q (by simp))
    | int j => obtain ⟨t', rfl⟩ := ry; exact PySem.EqNone.ne_none_int (fin_bl I q (by simp))
    | str j => obtain ⟨t', rfl⟩ := ry; exact PySem.EqNone.ne_none_str (fin_bl I q (by simp))
    | _ => exact absurd (show false = true from hs) Bool.false_ne_true
  | bl i =>
    cases rx
    cases y with
    | non => cases ry; exact PySem.EqNone.ne_bool_none (fin_bl I q (by simp))
    | bl j => cases ry; exact ne_bool (fin_bl I q (congrArg not dec_bl))
    | str j => obtain ⟨t', rfl⟩ := ry; exact PySem.EqMixed.ne_bool_str (fin_bl I q (by simp))
    | _ => exact absurd (show false = true from hs) Bool.false_ne_true
  | int i =>
    obtain ⟨t, rfl⟩ := rx
    cases y with
    | non => cases ry; exact PySem.EqNone.ne_int_none (fin_bl I q (by simp))
    | int j => obtain ⟨t', rfl⟩ := ry; exact ne_int (fin_bl I q (congrArg not dec_int))
    | str j => obtain ⟨t', rfl⟩ := ry; exact PySem.EqMixed.ne_int_str (fin_bl I q (by simp))
    | _ => exact absurd (show false = true from hs) Bool.false_ne_true
  | str i =>
    obtain ⟨t, rfl⟩ := rx
    cases y with
    | non => cases ry; exact PySem.EqNone.ne_str_none (fin_bl I q (by simp))
    | bl j => cases ry; exact PySem.EqMixed.ne_str_bool (fin_bl I q (by simp))
    | int j => obtain ⟨t', rfl⟩ := ry; exact PySem.EqMixed.ne_str_int (fin_bl I q (by simp))
    | str j => obtain ⟨t', rfl⟩ := ry; exact ne_str (fin_bl I q (congrArg not dec_str))
    | _ => exact absurd (show false = true from hs) Bool.false_ne_true
  | byt i =>
    obtain ⟨t, rfl⟩ := rx
    cases y with
    | byt j => obtain ⟨t', rfl⟩ := ry; exact PySem.W.ne_bytes (fin_bl I q (congrArg not dec_byt))
    | _ => exact absurd (show false = true from hs) Bool.false_ne_true
  | _ => cases y <;> exact absurd (show false = true from hs) Bool.false_ne_true
theorem op_lt : OpR X (compareOp .Lt) (rI0 fun i j => .bl (decide (i < j))) := opB0 fun _ _ _ _ _ _ _ q => lt_int q
theorem op_le : OpR X (compareOp .LtE) (rI0 fun i j => .bl (decide (i ≤ j))) := opB0 fun _ _ _ _ _ _ _ q => le_int q
theorem op_gt : OpR X (compareOp .Gt) (rI0 fun i j => .bl (decide (j < i))) := opB0 fun _ _ _ _ _ _ _ q => gt_int q
theorem op_ge : OpR X (compareOp .GtE) (rI0 fun i j => .bl (decide (j ≤ i))) := opB0 fun _ _ _ _ _ _ _ q => ge_int q
theorem op_in_str : OpR X (compareOp .In) (fun x y H Q => ∃ i j, x = .str i ∧ y = .str j ∧ Q (.bl (!(Builtin.Str.occurrences j i 0 j.length 1).isEmpty)) H) := by
  intro pins s σ H x y v u Q I rx ry h
  obtain ⟨i, j, rfl, rfl, q⟩ := h
  obtain ⟨t, rfl⟩ := rx
  obtain ⟨t', rfl⟩ := ry
  exact in_str (fin_bl I q rfl)
theorem op_isN : OpR X (compareOp .Is) (fun x y H Q => y = .non ∧ Q (.bl (decide (x = .non))) H) := by
  intro pins s σ H x y v u Q I rx ry h
  obtain ⟨rfl, q⟩ := h
  cases ry
  refine is_none_gen (fin_bl I q ?_)
  cases x <;> first
    | (cases rx; rfl)
    | (obtain ⟨t, rfl⟩ := rx; rfl)
theorem op_notN : OpR X (compareOp .IsNot) (fun x y H Q => y = .non ∧ Q (.bl (!decide (x = .non))) H) := by
  intro pins s σ H x y v u Q I rx ry h
  obtain ⟨rfl, q⟩ := h
  cases ry
  refine isnot_none_gen (fin_bl I q ?_)
  cases x <;> first
    | (cases rx; rfl)
    | (obtain ⟨t, rfl⟩ := rx; rfl)
theorem OpR.or {f : Value → Value → Sem Value} {r r' : R2} (h : OpR X f r) (h' : OpR X f r') : OpR X f (fun x y H Q => r x y H Q ∨ r' x y H Q) := by
  intro pins s σ H x y v u Q I rx ry q
  rcases q with q | q
  · exact h pins s σ H x y v u Q I rx ry q
  · exact h' pins s σ H x y v u Q I rx ry q
theorem nomark (b : Expr) {op : CmpOp} (h : op ≠ .In := by decide) (h2 : op ≠ .NotIn := by decide) : behindInMarks op b = false := by
  have e1 : (op == CmpOp.In) = false := by cases op <;> first | rfl | exact absurd rfl h
  have e2 : (op == CmpOp.NotIn) = false := by cases op <;> first | rfl | exact absurd rfl h2
  cases b <;> simp [behindInMarks, e1, e2]
theorem pe_cmpR {op : CmpOp} {r : R2} (ho : OpR X (compareOp op) r) (ha : PE X a ta) (hb : PE X b tb) (hm : behindInMarks op b = false) : PE X (.Compare a [op] [b] pos) (tOp r ta tb) := by
  intro pins s σ H Q I h
  exact wpAny_Compare1 (binT ha hb I h fun v u s2 x y H2 I2 rx ry q => ho pins s2 σ H2 x y v u Q I2 rx ry q) hm
def tTest (t : TE) : TT := fun σ H Q => t σ H fun x H' => ∃ k, x = .bl k ∧ Q k H'
theorem pt_cmpR {op : CmpOp} {r : R2} (ho : OpR X (compareOp op) r) (ha : PE X a ta) (hb : PE X b tb) (hm : behindInMarks op b = false) : PT X (.Compare a [op] [b] pos) (tTest (tOp r ta tb)) := by
  intro pins s σ H Q I h
  refine wpAny_isTrue_Compare1 (thn (ha pins s σ H _ I h) fun v s1 ⟨x, H1, I1, r1, q1⟩ => thn (hb pins s1 σ H1 _ I1 q1) fun u s2 ⟨y, H2, I2, r2, q2⟩ =>
    thn (ho pins s2 σ H2 x y v u _ I2 r1 r2 q2) fun c s3 ⟨z, H3, I3, r3, k, e, q3⟩ => ?_) hm
  subst e
  cases r3
  exact wpAny_truthy_bool ⟨H3, I3, q3⟩
def tChain (r r' : R2) (ta tb tc : TE) : TE := fun σ H Q => ta σ H fun x H1 => tb σ H1 fun y H2 => r x y H2 fun z H3 => ∃ k, z = .bl k ∧
  (if k = true then tc σ H3 fun w' H4 => r' y w' H4 Q else Q (.bl false) H3)
theorem pe_chain {op op' : CmpOp} {r r' : R2} (ho : OpR X (compareOp op) r) (ho' : OpR X (compareOp op') r') (ha : PE X a ta) (hb : PE X b tb) (hc : PE X c tc)
    (hm : lastMarks [op, op'] [b, c] = false := by with_unfolding_all rfl) : PE X (.Compare a [op, op'] [b, c] pos) (tChain r r' ta tb tc) := by
  intro pins s σ H Q I h
  refine Compare_chain (thn (ha pins s σ H _ I h) fun v s1 ⟨x, H1, I1, r1, q1⟩ => chain_link (thn (hb pins s1 σ H1 _ I1 q1) fun u s2 ⟨y, H2, I2, r2, q2⟩ =>
    thn (ho pins s2 σ H2 x y v u _ I2 r1 r2 q2) fun d s3 ⟨z, H3, I3, r3, k, e, q3⟩ => ?_)) hm
  subst e
  cases r3
  refine wpAny_truthy_bool ?_
  cases k with
  | false => exact ite_ff ⟨.bl false, H3, I3, rfl, q3⟩
  | true => exact ite_tt (chain_last (thn (hc pins s3 σ H3 _ I3 q3) fun w' s4 ⟨z', H4, I4, r4, q4⟩ => ho' pins s4 σ H4 y z' u w' Q I4 r2 r4 q4))
theorem line63 : (sizeLine : Nat) < 2 ^ 63 := by rw [sizeLine_eq]; decide
theorem vals1 {x : V} {us : List Value} (r : Vals [x] us) : ∃ u, us = [u] ∧ RelV x u := by
  cases r with
  | cons r1 r2 => cases r2; exact ⟨_, rfl, r1⟩
theorem vals2 {x y : V} {us : List Value} (r : Vals [x, y] us) : ∃ u w', us = [u, w'] ∧ RelV x u ∧ RelV y w' := by
  cases r with
  | cons r1 r2 =>
    cases r2 with
    | cons r3 r4 => cases r4; exact ⟨_, _, rfl, r1, r3⟩
end
end L2
namespace L2
open PySem PySem.Spec PyProof.Rows
structure ObjM (h : Heap) (x dx C : Addr) (mA : Str → Option Value) : Prop where
  obj : h.get? x = some (PySem.W.instObj C dx)
  ns : h.Ns1 dx mA
  ne : dx ≠ x
theorem lookIn_ns {h : Heap} {dx : Addr} {mA : Str → Option Value} (n : h.Ns1 dx mA) : ∃ od, h.get? dx = some od ∧ ∀ name, PySem.W.lookIn name od = some (mA name) := by
  obtain ⟨o, es, ep, ho, hd, hk, _, hm⟩ := n
  refine ⟨o, ho, fun name => ?_⟩
  have e := hm name
  unfold nsFind findBy at e
  rw [← Array.find?_toList] at e
  unfold PySem.W.lookIn
  rw [hd]
  dsimp only
  split
  · rename_i y q
    rw [q] at e
    exact congrArg some e
  · rename_i q
    rw [q] at e
    have a : es.toList.any (·.refKey) = false := by
      rw [List.any_eq_false]
      intro y hy
      obtain ⟨z, t, hkey⟩ := hk y (Array.mem_toList_iff.mp hy)
      simp [DictEntry.refKey, hkey]
    have a' : ¬ es.toList.any (·.refKey) = true := by rw [a]; exact Bool.false_ne_true
    rw [if_neg a']
    exact congrArg some e
theorem ObjM.look {h : Heap} {x dx C : Addr} {mA : Str → Option Value} (I : ObjM h x dx C mA) : ∃ od, PySem.W.InstAt h x (PySem.W.instObj C dx) C (some od) ∧ ∀ name, PySem.W.lookIn name od = some (mA name) :=
  let ⟨od, ho, hl⟩ := lookIn_ns I.ns
  ⟨od, ⟨I.obj, rfl, rfl, ho⟩, hl⟩
section
variable {prog : Program} {w : World} {A : Around} {E : Value → Shared → Prop} {s : Shared} {K : PySem.W.Frag} {x dx C f : Addr} {mA : Str → Option Value} {name : Str} {v : Value}
theorem get_map {expr : Bool} {Q : Value → Shared → Prop} (X : K.In s.heap) (I : ObjM s.heap x dx C mA) (hg : PySem.W.plainGet K C name = true) (hh : PySem.W.hasDictIn K C = true)
    (ha : PySem.W.findIn K (.ref C) name = some none) (hv : mA name = some v) (hv' : PySem.W.handedIn v = true) (h : Q v { s with toks := s.toks + 1 }) :
    wpAny (model prog w) A (getAttr (.ref x) name expr) Q E s := by
  obtain ⟨od, J, hl⟩ := I.look
  exact PySem.W.get_value X J (PySem.W.plainGet_of hg).1 (PySem.W.findObj_own hh ha rfl (by rw [hl, hv])) hv' h
theorem get_meth {pl : Sem Bool} {Q : Value × List Value → Shared → Prop} (X : K.In s.heap) (I : ObjM s.heap x dx C mA) (hg : PySem.W.plainGet K C name = true)
    (hf : PySem.W.findIn K (.ref C) name = some (some (.ref f))) (ht : PySem.W.isFn K (.ref f) = true) (hv : mA name = none) (h : Q (.ref f, [.ref x]) s) :
    wpAny (model prog w) A (getMethod (.ref x) name pl) Q E s := by
  obtain ⟨od, J, hl⟩ := I.look
  exact PySem.W.method_fn X J (PySem.W.plainGet_of hg).1 (PySem.W.plainGet_of hg).2 hf (beq_iff_eq.mp ht) (by show (PySem.W.lookIn name od).map (·.isSome) = some false; rw [hl, hv]; rfl) h
theorem set_map {ns : List Str} {Q : Unit → Shared → Prop} (X : K.In s.heap) (I : ObjM s.heap x dx C mA)
    (hs : PySem.W.findIn K (.ref C) "__setattr__" = some (some (.builtin "object.__setattr__"))) (hp : PySem.W.plainOver K C = true) (ht : PySem.W.takerIn K C name = some none) (hh : PySem.W.hasDictIn K C = true)
    (hw : PySem.Within mA ns) (hsz : ns.length ≤ sizeLine)
    (h : ∀ h', ObjM h' x dx C (fun y => if y = name then some v else mA y) → Heap.SameBut dx s.heap h' → Q () { s with heap := h', toks := s.toks + 2 }) :
    wpAny (model prog w) A (setAttr (.ref x) name v) Q E s := by
  obtain ⟨od, J, hl⟩ := I.look
  refine PySem.W.set_plain X J hs (PySem.W.osa_open (s := { s with toks := s.toks + 1 }) (r := none) X J hp ht fun b => ?_)
  obtain ⟨cd, hc, hd'⟩ := PySem.W.any_some hh
  have hx : s.heap.get? x = some ⟨.ref C, some dx, .plain, #[]⟩ := I.obj
  refine wpAny_bind (wpAny_pure (wpAny_bind (wpAny_bind (wpAny_loadPart hx (wpAny_bind (PySem.W.Looks.here (s := { s with toks := s.toks + 1 }) (PySem.W.looks_clsIn X hc) ?_))))))
  rw [hd']
  refine wpAny_pure (a := some dx) (wpAny_bind (wpAny_pure (wpAny_bind ?_)))
  refine wpAny_nsSet1 (s := { s with toks := s.toks + 1 }) I.ns fun h' hn2 hs2 => ?_
  obtain ⟨oD, esD, epD, hoD, hdD, hcD⟩ := hn2.count (PySem.Within.cons name v hw)
  refine wpAny_bind (wpAny_lookBehind hoD (by rw [hdD]; exact pastItsLine_dict (Nat.le_trans hcD (by rw [List.length_cons]; omega))) ?_)
  exact wpAny_pure (h _ ⟨(hs2.2 _ (Ne.symm I.ne)).trans I.obj, hn2, I.ne⟩ hs2)
theorem make_map {R : Result → Shared → Prop} {vs : List Value} {kw : List (Str × Value)} (X : K.In s.heap) (hm : PySem.W.makesIn K C = true)
    (hi : PySem.W.findIn K (.ref C) "__init__" = some (some (.ref f))) (hf : PySem.W.typeIn K (.ref f) = some (.type "function"))
    (h : codeAny (model prog w) (A.under (.builtin "type.__call__" ⟨.ref C :: vs, kw⟩)) (.call (.ref f) ⟨.ref (s.heap.objs.size + 1) :: vs, kw⟩) (PySem.W.InitBack (s.heap.objs.size + 1) R)
      { s with heap := (s.heap.push PySem.W.emptyDict).push (PySem.W.instObj C s.heap.objs.size) }) :
    codeAny (model prog w) A (.call (.ref C) ⟨vs, kw⟩) R s := by
  obtain ⟨hh, g, d, t, os⟩ := s
  exact PySem.W.make_core (PySem.W.makes_of X hm) (PySem.W.looks_findIn X hi) (fun self => PySem.W.bind_fn X self hf) (.inl rfl) h
end
def putF (f : Str) (v : V) : List (Str × V) → List (Str × V)
  | [] => [(f, v)]
  | (g, x) :: r => if g = f then (g, v) :: r else (g, x) :: putF f v r
theorem lookup_putF (f g : Str) (v : V) : ∀ fs : List (Str × V), (putF f v fs).lookup g = if g = f then some v else fs.lookup g
  | [] => by
    show List.lookup g [(f, v)] = _
    by_cases h : g = f
    · have hb : (g == f) = true := beq_iff_eq.mpr h
      simp only [List.lookup, hb, if_pos h]
    · have hb : (g == f) = false := beq_eq_false_iff_ne.mpr h
      simp only [List.lookup, hb, if_neg h]
  | (k, x) :: r => by
    have ih := lookup_putF f g v r
    rw [show putF f v ((k, x) :: r) = (if k = f then (k, v) :: r else (k, x) :: putF f v r) from rfl]
    by_cases hk : k = f
    · rw [if_pos hk]
      by_cases h : g = k
      · have hb : (g == k) = true := beq_iff_eq.mpr h
        simp only [List.lookup, hb, if_pos (h.trans hk)]
      · have hb : (g == k) = false := beq_eq_false_iff_ne.mpr h
        simp only [List.lookup, hb, if_neg (fun e : g = f => h (e.trans hk.symm))]
    · rw [if_neg hk]
      by_cases h : g = k
      · have hb : (g == k) = true := beq_iff_eq.mpr h
        simp only [List.lookup, hb, if_neg (fun e : g = f => hk (h.symm.trans e))]
      · have hb : (g == k) = false := beq_eq_false_iff_ne.mpr h
        simp only [List.lookup, hb]
        exact ih
theorem keys_putF (f : Str) (v : V) : ∀ fs : List (Str × V), f ∈ (putF f v fs).map (·.1) ∧ ∀ g, g ∈ fs.map (·.1) → g ∈ (putF f v fs).map (·.1)
  | [] => ⟨by simp [putF], fun g h => by simp at h⟩
  | (k, x) :: r => by
    obtain ⟨i1, i2⟩ := keys_putF f v r
    rw [show putF f v ((k, x) :: r) = (if k = f then (k, v) :: r else (k, x) :: putF f v r) from rfl]
    by_cases hk : k = f
    · rw [if_pos hk]
      subst hk
      exact ⟨by simp, fun g h => by simpa using h⟩
    · rw [if_neg hk]
      refine ⟨?_, fun g h => ?_⟩
      · rw [List.map_cons]
        exact List.mem_cons_of_mem _ i1
      · rw [List.map_cons] at h ⊢
        rcases List.mem_cons.mp h with e | e
        · exact List.mem_cons.mpr (.inl e)
        · exact List.mem_cons_of_mem _ (i2 g e)
theorem length_putF (f : Str) (v : V) : ∀ fs : List (Str × V), (putF f v fs).length ≤ fs.length + 1
  | [] => by simp [putF]
  | (k, x) :: r => by
    have ih := length_putF f v r
    rw [show putF f v ((k, x) :: r) = (if k = f then (k, v) :: r else (k, x) :: putF f v r) from rfl]
    by_cases hk : k = f
    · rw [if_pos hk, List.length_cons, List.length_cons]; omega
    · rw [if_neg hk, List.length_cons, List.length_cons]; omega
theorem RelO.some_of {v : V} {o : Option Value} (r : RelO (some v) o) : ∃ u, o = some u ∧ RelV v u := by
  cases o with
  | none => exact (show False from r).elim
  | some u => exact ⟨u, rfl, r⟩
theorem RelO.none_of {o : Option Value} (r : RelO none o) : o = none := by
  cases o with
  | none => rfl
  | some u => exact (show False from r).elim
theorem handed_of {v : V} {u : Value} (r : RelV v u) : PySem.W.handedIn u = true := by
  cases v with
  | non => cases (show u = Value.none from r); rfl
  | bl b => cases (show u = Value.bool b from r); rfl
  | int i => obtain ⟨t, e⟩ := (show ∃ t, u = Value.int i t from r); cases e; rfl
  | str x => obtain ⟨t, e⟩ := (show ∃ t, u = Value.str x t from r); cases e; rfl
  | byt b => obtain ⟨t, e⟩ := (show ∃ t, u = Value.bytes b t from r); cases e; rfl
  | flt b => obtain ⟨t, e⟩ := (show ∃ t, u = Value.float b t from r); cases e; rfl
  | ref a => cases (show u = Value.ref a from r); rfl
  | ty n => cases (show u = Value.type n from r); rfl
section
variable {P : Program} {w : World} {H H' : Hp} {h h' : Heap} {a C dx : Addr} {fs fs' : List (Str × V)}
theorem ins_get (hok : HOk P w H h) (e : H a = some (.ins C dx fs)) : ∃ mA, ObjM h a dx C mA ∧ (∀ f, RelO (fs.lookup f) (mA f)) ∧ PySem.Within mA (fs.map (·.1)) ∧ fs.length ≤ 1000 ∧ H dx = some (.own a) := by
  obtain ⟨d, z, ne, ob, mA, n, r, q⟩ := (show ObjOk P w H h a (.ins C dx fs) from hok a _ e)
  exact ⟨mA, ⟨ob, n, ne⟩, r, q, z, d⟩
end
structure Cls (K : PySem.W.Frag) (C : Addr) : Prop where
  pg : PySem.W.plainGet K C Str.empty = true
  hd : PySem.W.hasDictIn K C = true
  po : PySem.W.plainOver K C = true
  sa : PySem.W.findIn K (.ref C) "__setattr__" = some (some (.builtin "object.__setattr__"))
theorem Cls.get {K : PySem.W.Frag} {C : Addr} (c : Cls K C) (f : Str) : PySem.W.plainGet K C f = true := c.pg
def NoAttr (K : PySem.W.Frag) (C : Addr) (f : Str) : Prop := PySem.W.findIn K (.ref C) f = some none
theorem NoAttr.taker {K : PySem.W.Frag} {C : Addr} {f : Str} (n : NoAttr K C f) : PySem.W.takerIn K C f = some none := by
  unfold PySem.W.takerIn
  rw [show PySem.W.findIn K (.ref C) f = some none from n]
  rfl
structure Meth (K : PySem.W.Frag) (C : Addr) (m : Str) (f : Addr) : Prop where
  at_ : PySem.W.findIn K (.ref C) m = some (some (.ref f))
  fn : PySem.W.isFn K (.ref f) = true
  kp : PySem.W.keepIn K (.ref f) = true
section
variable {X : Cx} {pins : List (Addr × Obj)} {σ : St} {H : Hp} {s : Shared} {a C dx : Addr} {fs : List (Str × V)} {f : Str} {v : V} {A : Around} {E : Value → Shared → Prop}
theorem getattr_ok {b : Bool} {Q : Value → Shared → Prop} (I : Inv X pins σ H s) (e : H a = some (.ins C dx fs)) (c : Cls X.K C) (n : NoAttr X.K C f) (l : fs.lookup f = some v)
    (h : ∀ u s', Inv X pins σ H s' → RelV v u → Q u s') : wpAny (model X.prog X.w) A (getAttr (.ref a) f b) Q E s := by
  obtain ⟨mA, O, r, _, _, _⟩ := ins_get I.hok e
  obtain ⟨u, hu, ru⟩ := RelO.some_of (v := v) (o := mA f) (by rw [← l]; exact r f)
  exact get_map I.kIn O (c.get f) c.hd n hu (handed_of ru) (h u _ (I.tok _) ru)
theorem getmeth_ok {m : Str} {g : Addr} {pl : Sem Bool} {Q : Value × List Value → Shared → Prop} (I : Inv X pins σ H s) (e : H a = some (.ins C dx fs)) (c : Cls X.K C) (k : Meth X.K C m g) (l : fs.lookup m = none)
    (h : Q (.ref g, [.ref a]) s) : wpAny (model X.prog X.w) A (getMethod (.ref a) m pl) Q E s := by
  obtain ⟨mA, O, r, _, _, _⟩ := ins_get I.hok e
  have hn : mA m = none := RelO.none_of (by rw [← l]; exact r m)
  exact get_meth I.kIn O (c.get m) k.at_ k.fn hn h
theorem setattr_ok {y : V} {u : Value} {Q : Unit → Shared → Prop} (I : Inv X pins σ H s) (e : H a = some (.ins C dx fs)) (c : Cls X.K C) (n : NoAttr X.K C f) (hl : fs.length < 1000) (ry : RelV y u)
    (h : ∀ s', Inv X pins σ (upd H a (.ins C dx (putF f y fs))) s' → Q () s') : wpAny (model X.prog X.w) A (setAttr (.ref a) f u) Q E s := by
  obtain ⟨mA, O, r, wi, _, ho⟩ := ins_get I.hok e
  have hz : (fs.map (·.1)).length ≤ sizeLine := by rw [List.length_map, sizeLine_eq]; omega
  refine set_map I.kIn O c.sa c.po n.taker c.hd wi hz fun h' O' sb => h _ ?_
  have hd : ∃ o, h'.get? dx = some o := let ⟨o, _, _, e', _⟩ := O'.ns; ⟨o, e'⟩
  refine I.write (x := a) (e := dx) (by rw [e]; exact True.intro) (.inr ho) (fun b q hb z => (sb.2 b hb).trans z) hd ?_
  refine ⟨by rw [upd_ne O.ne]; exact ho, ?_, O.ne, O'.obj, _, O'.ns, fun g => ?_, fun g hg => ?_⟩
  · have := length_putF f y fs; omega
  · show RelO ((putF f y fs).lookup g) (if g = f then some u else mA g)
    rw [lookup_putF]
    by_cases q : g = f
    · rw [if_pos q, if_pos q]; exact ry
    · rw [if_neg q, if_neg q]; exact r g
  · by_cases q : g = f
    · rw [q]; exact (keys_putF f y fs).1
    · refine (keys_putF f y fs).2 g (wi g fun z => hg ?_)
      show (if g = f then some u else mA g) = none
      rw [if_neg q]; exact z
theorem Inv.made (I : Inv X pins σ H s) : Inv X pins σ (upd (upd H s.heap.objs.size (.own (s.heap.objs.size + 1))) (s.heap.objs.size + 1) (.ins C s.heap.objs.size []))
    { s with heap := (s.heap.push PySem.W.emptyDict).push (PySem.W.instObj C s.heap.objs.size) } := by
  have e1 : (s.heap.push PySem.W.emptyDict).get? s.heap.objs.size = some PySem.W.emptyDict := Heap.get?_push_size s.heap rfl
  have e2 : ((s.heap.push PySem.W.emptyDict).push (PySem.W.instObj C s.heap.objs.size)).get? (s.heap.objs.size + 1) = some (PySem.W.instObj C s.heap.objs.size) := by
    have := Heap.get?_push_size (s.heap.push PySem.W.emptyDict) (o := PySem.W.instObj C s.heap.objs.size) rfl
    rwa [Heap.size_push] at this
  have e3 : (s.heap.push PySem.W.emptyDict).Ns s.heap.objs.size (fun _ => none) := ⟨PySem.W.emptyDict, #[], _, e1, rfl, (fun e he => absurd he (by simp)), fun _ => rfl⟩
  have I1 := I.laid (a := s.heap.objs.size) (o := .own (s.heap.objs.size + 1)) (h' := s.heap.push PySem.W.emptyDict) (t' := s.toks) (fun b u q => Heap.get?_push_of_some _ q) (Nat.le_refl _) ⟨_, e1⟩
  refine I1.laid (a := s.heap.objs.size + 1) (o := .ins C s.heap.objs.size []) (t' := s.toks) (fun b u q => Heap.get?_push_of_some _ q) (Nat.le_of_eq (Heap.size_push _ _)) ?_
  have ne : s.heap.objs.size ≠ s.heap.objs.size + 1 := Nat.ne_of_lt (Nat.lt_succ_self _)
  refine ⟨by rw [upd_ne ne, upd_same], Nat.zero_le _, ne, e2, fun _ => none, (Heap.Ns1.of_empty e3).at fun o q => Heap.get?_push_of_some _ q, fun _ => True.intro, fun y hy => absurd rfl hy⟩
theorem attr_of {prog : Program} {w : World} {env : Env} {e : Expr} {f : Str} {pos : Pos} {s : Shared} {Q : Value → Shared → Prop} (hb : attributeBase e f env (eval e env) = eval e env)
    (h : wpAny (model prog w) A (eval e env) (fun o s₁ => wpAny (model prog w) A (getAttr o f true) Q E s₁) E s) : wpAny (model prog w) A (eval (.Attribute e f pos) env) Q E s :=
  Attribute_any_ h (by rw [arm_eval_Attribute, hb])
end
def tFld (K : PySem.W.Frag) (ta : TE) (f : Str) : TE := fun σ H Q => ta σ H fun x H1 => ∃ a C dx fs v, x = .ref a ∧ H1 a = some (.ins C dx fs) ∧ Cls K C ∧ NoAttr K C f ∧ fs.lookup f = some v ∧ Q v H1
def sFld (K : PySem.W.Frag) (ta tv : TE) (f : Str) : TS := fun D σ H => tv σ H fun y H1 => ta σ H1 fun x H2 => ∃ a C dx fs, x = .ref a ∧ H2 a = some (.ins C dx fs) ∧ Cls K C ∧ NoAttr K C f ∧ fs.length < 1000 ∧
  D.nx σ (upd H2 a (.ins C dx (putF f y fs)))
section
variable {X : Cx} {o e value : Expr} {f : Str} {pos pos' tpos : Pos} {ta tv : TE}
theorem pe_fld (he : PE X e ta) (hb : attributeBase e f X.env (eval e X.env) = eval e X.env) : PE X (.Attribute e f pos) (tFld X.K ta f) := by
  intro pins s σ H Q I h
  refine attr_of hb (thn (he pins s σ H _ I h) fun u s1 ⟨x, H1, I1, rx, a, C, dx, fs, v, ex, ea, c, n, l, q⟩ => ?_)
  subst ex
  obtain rfl : u = Value.ref a := rx
  exact getattr_ok I1 ea c n l fun u' s2 I2 ru => ⟨v, H1, I2, ru, q⟩
theorem ps_fld (ha : PE X o ta) (hv : PE X value tv) (hs : swapsWith value (some (.Attribute o f pos')) pos.line X.env = pure false) : PS X (.Assign [.Attribute o f pos'] value pos) (sFld X.K ta tv f) := by
  intro pins s σ H D I h
  refine plainObj_wpAny_Assign_Attribute (thn (hv pins s σ H _ I h) fun u s1 ⟨y, H1, I1, ry, q⟩ => thn (ha pins s1 σ H1 _ I1 q) fun ov s2 ⟨x, H2, I2, rx, a, C, dx, fs, ex, ea, c, n, l, q2⟩ => ?_) hs
  subst ex
  obtain rfl : ov = Value.ref a := rx
  exact setattr_ok I2 ea c n l ry fun s3 I3 => ⟨σ, _, I3, q2⟩
end
section
variable {X : Cx} {pins : List (Addr × Obj)} {σ : St} {H : Hp} {s : Shared} {A : Around} {E : Value → Shared → Prop} {Q : Value → Shared → Prop} {c : Value} {b : Bool}
inductive TyOf (K : PySem.W.Frag) (H : Hp) : V → Value → Prop where
  | non : TyOf K H .non (.type "NoneType")
  | bl (x : Bool) : TyOf K H (.bl x) (.type "bool")
  | int (i : Int) : TyOf K H (.int i) (.type "int")
  | str (x : Str) : TyOf K H (.str x) (.type "str")
  | flt (x : UInt64) : TyOf K H (.flt x) (.type "float")
  | lst {a : Addr} {xs : List V} (e : H a = some (.lst xs)) : TyOf K H (.ref a) (.type "list")
  | frz {a : Addr} {o : Obj} {xs : List V} (e : H a = some (.frz o (.lst xs))) : TyOf K H (.ref a) (.type "list")
  | tup {a : Addr} {xs : List V} (e : H a = some (.tup xs)) : TyOf K H (.ref a) (.type "tuple")
  | dK {a : Addr} {kvs : List (Key × V)} (e : H a = some (.dK kvs)) : TyOf K H (.ref a) (.type "dict")
  | dT {a : Addr} {kvs : List (List Key × V)} (e : H a = some (.dT kvs)) : TyOf K H (.ref a) (.type "dict")
  | ins {a C dx : Addr} {fs : List (Str × V)} (e : H a = some (.ins C dx fs)) (cl : Cls K C) (ha : PySem.W.findIn K (.ref C) "__class__" = some (some (.builtin "object.__class__")))
      (hn : PySem.W.specialIn K (.builtin "object.__class__") "__get__" = some (some (.builtin "getset_descriptor.__get__"))) (htk : PySem.W.takesIn K (.builtin "object.__class__") = some true)
      (hm : PySem.W.mroIn K C (.type "object") = some true) : TyOf K H (.ref a) (.ref C)
theorem isinst_ok {x : V} {u t : Value} (I : Inv X pins σ H s) (rx : RelV x u) (ty : TyOf X.K H x t) (e : PySem.W.kitOne X.K t c = some b) (h : ∀ tk, Q (.bool b) { s with toks := tk }) :
    wpAny (model X.prog X.w) A (call (.builtin "isinstance") [u, c]) Q E s := by
  cases ty with
  | non => cases (show u = Value.none from rx); exact PySem.W.kia_one PySem.W.kitx_none I.kIn True.intro e (fun z => nomatch z) h
  | bl y => cases (show u = Value.bool y from rx); exact PySem.W.kia_one PySem.W.kitx_bool I.kIn True.intro e (fun z => nomatch z) h
  | int i => obtain ⟨t, q⟩ := (show ∃ t, u = Value.int i t from rx); cases q; exact PySem.W.kia_one PySem.W.kitx_int I.kIn True.intro e (fun z => nomatch z) h
  | str y => obtain ⟨t, q⟩ := (show ∃ t, u = Value.str y t from rx); cases q; exact PySem.W.kia_one PySem.W.kitx_str I.kIn True.intro e (fun z => nomatch z) h
  | flt y => obtain ⟨t, q⟩ := (show ∃ t, u = Value.float y t from rx); cases q; exact PySem.W.kia_one PySem.W.kitx_float I.kIn True.intro e (fun z => nomatch z) h
  | @lst a xs ea =>
    cases (show u = Value.ref a from rx)
    obtain ⟨_, _, n, _, h1⟩ := (show ObjOk X.prog X.w H s.heap a (.lst xs) from I.hok a _ ea)
    exact PySem.W.kia_one PySem.W.kitx_list I.kIn ⟨_, h1, rfl⟩ e (fun z => nomatch z) h
  | @frz a ob xs ea =>
    cases (show u = Value.ref a from rx)
    obtain ⟨_, _, _, n, _, h1⟩ := (show ObjOk X.prog X.w H s.heap a (.frz ob (.lst xs)) from I.hok a _ ea)
    exact PySem.W.kia_one PySem.W.kitx_list I.kIn ⟨_, h1, rfl⟩ e (fun z => nomatch z) h
  | @tup a xs ea =>
    cases (show u = Value.ref a from rx)
    obtain ⟨_, _, _, p⟩ := (show ObjOk X.prog X.w H s.heap a (.tup xs) from I.hok a _ ea)
    obtain ⟨o, h1, h2, _⟩ := p
    exact PySem.W.kia_one PySem.W.kitx_tuple I.kIn ⟨o, h1, h2⟩ e (fun z => nomatch z) h
  | @dK a kvs ea =>
    cases (show u = Value.ref a from rx)
    obtain ⟨_, _, vs, _, p⟩ := (show ObjOk X.prog X.w H s.heap a (.dK kvs) from I.hok a _ ea)
    obtain ⟨o, es, ep, h1, h2, _⟩ := p
    exact PySem.W.kia_one PySem.W.kitx_dict I.kIn ⟨o, h1, h2.1⟩ e (fun z => nomatch z) h
  | @dT a kvs ea =>
    cases (show u = Value.ref a from rx)
    obtain ⟨_, _, xs, _, o, es, ep, h1, h2, _⟩ := (show ObjOk X.prog X.w H s.heap a (.dT kvs) from I.hok a _ ea)
    exact PySem.W.kia_one PySem.W.kitx_dict I.kIn ⟨o, h1, h2.1⟩ e (fun z => nomatch z) h
  | @ins a C dx fs ea cl ha hn htk hm =>
    cases (show u = Value.ref a from rx)
    obtain ⟨mA, O, _⟩ := ins_get I.hok ea
    obtain ⟨od, J, _⟩ := O.look
    exact PySem.W.kia_one (PySem.W.kitx_own (cl.get _) cl.hd ha hn htk hm) I.kIn J e (fun z => nomatch z) h
end
end L2
namespace L2
open PySem PySem.Spec PyProof.Rows
structure Room (k : Nat) (A : Around) : Prop where
  hd : A.handled = none
  dp : A.depth + 3 * k + 5 < recursionLimit
  un : A.units + 16 * k + 200 < cLine
theorem Room.mono {j k : Nat} {A : Around} (r : Room k A) (h : j ≤ k) : Room j A := ⟨r.hd, by have := r.dp; omega, by have := r.un; omega⟩
theorem Room.deeper {k : Nat} {A : Around} (r : Room (k + 1) A) (env : Env) : Room k (A.deeper env) :=
  ⟨r.hd, by have := r.dp; show A.depth + 1 + 3 * k + 5 < _; omega, by have := r.un; show A.units + 3 + 16 * k + 200 < _; omega⟩
theorem Room.in1 {k : Nat} {A : Around} (r : Room (k + 1) A) : Room k A.in1 :=
  ⟨r.hd, by have := r.dp; show A.depth + 3 * k + 5 < _; omega, by have := r.un; show A.units + 1 + 16 * k + 200 < _; omega⟩
theorem make_depth {A : Around} {C : Addr} {us : List Value} {kw : List (Str × Value)} : (A.under (.builtin "type.__call__" ⟨.ref C :: us, kw⟩)).depth = A.depth + 1 := by
  first | rfl | simp [Around.under, Code.weight, Code.isCreation, Code.isGuard, Code.isCaller, Code.frames, Code.isFrame, guardIds]
theorem make_units {A : Around} {C : Addr} {us : List Value} {kw : List (Str × Value)} : (A.under (.builtin "type.__call__" ⟨.ref C :: us, kw⟩)).units = A.units + 1 := by
  first | rfl | simp [Around.under, Code.cUnits, Code.frames, Code.isFrame]
theorem Room.make {k : Nat} {A : Around} (r : Room (k + 1) A) (C : Addr) (us : List Value) (kw : List (Str × Value)) : Room k (A.under (.builtin "type.__call__" ⟨.ref C :: us, kw⟩)) :=
  ⟨r.hd, by have := r.dp; rw [make_depth]; omega, by have := r.un; rw [make_units]; omega⟩
theorem Room.depth {k : Nat} {A : Around} (r : Room k A) : A.depth < recursionLimit := by have := r.dp; omega
theorem Room.units {k : Nat} {A : Around} (r : Room k A) : A.units + 64 < cLine := by have := r.un; omega
def tNil : TA := fun _ H Q => Q [] H
def tCons (ta : TE) (tr : TA) : TA := fun σ H Q => ta σ H fun x H1 => tr σ H1 fun xs H2 => Q (x :: xs) H2
section
variable {X : Cx} {e : Expr} {es : List Expr} {te : TE} {t : TA} {pos : Pos}
theorem pa_nil : PA X [] tNil := fun _ _ _ _ H Q I h => Calls.spliced_nil ⟨[], H, I, .nil, h⟩
theorem pa_cons (ha : PE X e te) (hr : PA X es t) (hs : starEach (e :: es) X.env = (false, eval e X.env) :: starEach es X.env := by rfl) : PA X (e :: es) (tCons te t) := by
  intro pos pins s σ H Q I h
  rw [hs]
  show wpAny _ _ (spliced ((false, eval e X.env) :: backTo pos (starEach es X.env))) _ _ s
  refine Calls.spliced_cons (thn (ha pins s σ H _ I h) fun u s1 ⟨x, H1, I1, r1, q1⟩ => ?_)
  exact thn (hr pos pins s1 σ H1 _ I1 q1) fun us s2 ⟨xs, H2, I2, r2, q2⟩ => ⟨x :: xs, H2, I2, .cons r1 r2, q2⟩
def tLst (t : TA) : TE := fun σ H Q => t σ H fun xs H1 => xs.length ≤ sizeLine ∧ ∀ p, H1 p = none → Q (.ref p) (upd H1 p (.lst xs))
theorem pe_lst (h : PA X es t) : PE X (.List es pos) (tLst t) := by
  intro pins s σ H Q I hq
  refine wpAny_List_spliced (thn (h pos pins s σ H _ I hq) fun us s1 ⟨xs, H1, I1, r, z, q⟩ => ⟨by rw [← r.length]; exact z, ?_⟩)
  have hf : H1 s1.heap.objs.size = none := I1.hok.fresh (Nat.le_refl _)
  refine ⟨.ref s1.heap.objs.size, upd H1 s1.heap.objs.size (.lst xs), I1.laid (t' := s1.toks) (fun b u e => Heap.get?_push_of_some _ e) (Nat.le_refl _) ?_, rfl, q _ hf⟩
  exact ⟨z, us, 0, r, Heap.get?_push_size _ rfl⟩
end
abbrev Sp := List V → Hp → VK → XK → Prop
abbrev CXT := List Env → Hp → Shared → XK → Value → Shared → Prop
structure Env0 (P : Program) (w : World) (K : PySem.W.Frag) (mg : Str → Option Value) (base : Heap) (A : Around) (outer : List Env) (s : Shared) (H : Hp) : Prop where
  frames : A.frames = some outer
  mod : Mod K mg base
  bs : ∀ b o, base.get? b = some o → s.heap.get? b = some o ∧ H b = none
  bsz : base.objs.size ≤ s.heap.objs.size
  funs : s.heap.FunFrames base outer
  frf : ∀ b ∈ frs outer, H b = none
  hok : HOk P w H s.heap
  bare : AllBare s.gens
def CE (outer : List Env) (P : Program) (w : World) (H : Hp) (s : Shared) (Q : VK) (u : Value) (s' : Shared) : Prop :=
  ∃ v H', s'.os = s.os ∧ AllBare s'.gens ∧ Un (frs outer) [] H H' s.heap s'.heap ∧ HOk P w H' s'.heap ∧ RelV v u ∧ Q v H'
def CR (CX : CXT) (outer : List Env) (P : Program) (w : World) (H : Hp) (s : Shared) (Q : VK) (E : XK) (r : Result) (s' : Shared) : Prop :=
  match r with
  | .ok (.ret u) => CE outer P w H s Q u s'
  | .ok _ => False
  | .error e => CX outer H s E e s'
structure FnOk (P : Program) (w : World) (K : PySem.W.Frag) (mg : Str → Option Value) (base : Heap) (CX : CXT) (k : Nat) (f : Addr) (fd : FuncData) (ps : List Str) (sp : Sp) : Prop where
  len : ∀ vs H Q E, sp vs H Q E → vs.length = ps.length
  run : ∀ (A : Around) (outer : List Env) (s : Shared) (H : Hp) (args : Args) (us : List Value) (vs : List V) (Q : VK) (E : XK), Room k A → Env0 P w K mg base A outer s H → BindsTo s fd args (ps.zip us) → Vals vs us → sp vs H Q E →
    codeAny (model P w) A (.call (.ref f) args) (CR CX outer P w H s Q E) s
theorem FnOk.mono {P : Program} {w : World} {K : PySem.W.Frag} {mg : Str → Option Value} {base : Heap} {CX : CXT} {j k : Nat} {f : Addr} {fd : FuncData} {ps : List Str} {sp : Sp} (F : FnOk P w K mg base CX j f fd ps sp) (h : j ≤ k) :
    FnOk P w K mg base CX k f fd ps sp := ⟨F.len, fun A outer s H args us vs Q E hr => F.run A outer s H args us vs Q E (hr.mono h)⟩
theorem FnOk.imp {P : Program} {w : World} {K : PySem.W.Frag} {mg : Str → Option Value} {base : Heap} {CX : CXT} {k : Nat} {f : Addr} {fd : FuncData} {ps : List Str} {sp sp' : Sp} (F : FnOk P w K mg base CX k f fd ps sp)
    (h : ∀ vs H Q E, sp' vs H Q E → sp vs H Q E) : FnOk P w K mg base CX k f fd ps sp' :=
  ⟨fun vs H Q E q => F.len vs H Q E (h _ _ _ _ q), fun A outer s H args us vs Q E hr he hb hv hs => F.run A outer s H args us vs Q E hr he hb hv (h _ _ _ _ hs)⟩
theorem Env0.make {P : Program} {w : World} {K : PySem.W.Frag} {mg : Str → Option Value} {base : Heap} {A : Around} {outer : List Env} {s : Shared} {H : Hp} (e : Env0 P w K mg base A outer s H) (C : Addr) (us : List Value) (kw : List (Str × Value)) :
    Env0 P w K mg base (A.under (.builtin "type.__call__" ⟨.ref C :: us, kw⟩)) outer s H := ⟨by first | exact e.frames | (simpa [Around.under, Code.envs, Code.isFrame, pushEnvs] using e.frames), e.mod, e.bs, e.bsz, e.funs, e.frf, e.hok, e.bare⟩
theorem Env0.in1 {P : Program} {w : World} {K : PySem.W.Frag} {mg : Str → Option Value} {base : Heap} {A : Around} {outer : List Env} {s : Shared} {H : Hp} (e : Env0 P w K mg base A outer s H) :
    Env0 P w K mg base A.in1 outer s H := ⟨e.frames, e.mod, e.bs, e.bsz, e.funs, e.frf, e.hok, e.bare⟩
section
variable {X : Cx} {pins : List (Addr × Obj)} {σ : St} {H : Hp} {s s' : Shared}
theorem Inv.env0 (I : Inv X pins σ H s) : Env0 X.prog X.w X.K X.mg X.base X.A X.stack s H :=
  ⟨I.ok.frames, I.ok.mod, I.bs, Nat.le_trans I.ok.bsz I.sz, I.stack, I.stkFree, I.hok, I.bare⟩
theorem Inv.after {Q : VK} {u : Value} (I : Inv X pins σ H s) (h : CE X.stack X.prog X.w H s Q u s') : EP X pins σ Q u s' := by
  obtain ⟨v, H', os, bare, un, hok, r, q⟩ := h
  obtain ⟨hh, g, d, t, os'⟩ := s'
  obtain rfl : os' = s.os := os
  exact ⟨v, H', I.call (h' := hh) (g' := g) (d' := d) (t' := t) (ch := []) un hok bare (fun b z => absurd z (by simp)), r, q⟩
end
def tCall (sp : Sp) (dvs : List V) (E : XK) (t : TA) : TE := fun σ H Q => t σ H fun vs H1 => sp (vs ++ dvs) H1 Q E
def tMeth (C : Addr) (m : Str) (sp : Sp) (dvs : List V) (E : XK) (ta : TE) (t : TA) : TE := fun σ H Q => ta σ H fun x H1 => ∃ a dx fs, x = .ref a ∧ H1 a = some (.ins C dx fs) ∧ fs.lookup m = none ∧
  t σ H1 fun vs H2 => sp (x :: (vs ++ dvs)) H2 Q E
def tMake (C : Addr) (sp : Sp) (dvs : List V) (E : XK) (t : TA) : TE := fun σ H Q => t σ H fun vs H1 => ∀ x dx, H1 x = none → H1 dx = none → dx ≠ x →
  sp (.ref x :: (vs ++ dvs)) (upd (upd H1 dx (.own x)) x (.ins C dx [])) (fun v H2 => v = .non ∧ Q (.ref x) H2) E
def Binds (K : PySem.W.Frag) (fd : FuncData) (ps : List Str) (ds : List Value) : Prop :=
  ∀ (s : Shared) (us : List Value), K.In s.heap → (us ++ ds).length = ps.length → BindsTo s fd ⟨us, []⟩ (ps.zip (us ++ ds))
theorem Binds.all {K : PySem.W.Frag} {fd : FuncData} {ps : List Str} (h : ∀ us : List Value, us.length = ps.length → bindArgs fd ⟨us, []⟩ = pure (ps.zip us)) : Binds K fd ps [] := fun s us _ hl => by
  rw [List.append_nil] at hl ⊢
  exact .of_eq (h us hl)
def Passes (CX : CXT) (X : Cx) (E : XK) : Prop := ∀ (pins : List (Addr × Obj)) (σ : St) (H : Hp) (s : Shared) (e : Value) (s' : Shared), Inv X pins σ H s → CX X.stack H s E e s' → X.xe e s'
section
variable {X : Cx} {CX : CXT} {k : Nat} {f C : Addr} {fd : FuncData} {ps : List Str} {sp : Sp} {dvs : List V} {ds : List Value} {E : XK} {x m : Str} {p pos apos : Pos} {e o : Expr} {es : List Expr} {ta : TE} {t : TA}
theorem run_fn {pins : List (Addr × Obj)} {σ : St} {H : Hp} {s : Shared} {Q : VK} {us : List Value} {vs : List V} (F : FnOk X.prog X.w X.K X.mg X.base CX k f fd ps sp) (hr : Room k X.A) (hb : Binds X.K fd ps ds) (hd : Vals dvs ds) (hx : Passes CX X E)
    (I : Inv X pins σ H s) (r : Vals vs us) (h : sp (vs ++ dvs) H Q E) : wpAny (model X.prog X.w) X.A (call (.ref f) us) (EP X pins σ Q) X.xe s := by
  have r2 : Vals (vs ++ dvs) (us ++ ds) := r.append hd
  have hl : (us ++ ds).length = ps.length := by rw [← r2.length]; exact F.len _ _ _ _ h
  refine wpAny_call (codeAny_mono (F.run X.A X.stack s H ⟨us, []⟩ (us ++ ds) (vs ++ dvs) Q E hr I.env0 (hb s us I.kIn hl) r2 h) fun r s' hq => ?_)
  cases r with
  | error e => exact hx pins σ H s e s' I hq
  | ok fl =>
    cases fl with
    | ret u => exact I.after hq
    | next => exact False.elim hq
    | brk => exact False.elim hq
    | cont => exact False.elim hq
theorem pe_call (F : FnOk X.prog X.w X.K X.mg X.base CX k f fd ps sp) (hr : Room k X.A) (hg : Gl X x) (hm : X.mg x = some (.ref f)) (hk : PySem.W.keepIn X.K (.ref f) = true) (hb : Binds X.K fd ps ds) (hd : Vals dvs ds) (hx : Passes CX X E)
    (ha : PA X (e :: es) t) (hdb : (x == ("__debug__" : Str)) = false := by decide) (he : starEach (e :: es) X.env = (false, eval e X.env) :: starEach es X.env := by rfl) (hpl : (backTo pos (starEach es X.env)).any (·.1) = false := by rfl) :
    PE X (.Call (.Name x p) (e :: es) [] pos) (tCall sp dvs E t) := by
  intro pins s σ H Q I h
  refine wpAny_Call_Name_kw (ld_glob I hg hm ?_ hdb)
  refine PySem.W.callWith_K (h₀ := X.base) I.ok.mod.kin hk (thn (ha pos pins s σ H _ I h) fun us s1 ⟨vs, H1, I1, r, q⟩ => ⟨I1.kIn, ?_⟩) he hpl
  exact run_fn F hr hb hd hx I1 r q
theorem pe_meth {pl : Sem Bool} (he : PE X o ta) (c : Cls X.K C) (hm : Meth X.K C m f) (F : FnOk X.prog X.w X.K X.mg X.base CX k f fd ps sp) (hr : Room k X.A) (hb : Binds X.K fd ps ds) (hd : Vals dvs ds) (hx : Passes CX X E) (ha : PA X (e :: es) t)
    (hst : starEach (e :: es) X.env = (false, eval e X.env) :: starEach es X.env := by rfl) (hpl : (backTo pos (starEach es X.env)).any (·.1) = false := by rfl)
    (ht : eval (.Call (.Attribute o m apos) (e :: es) [] pos) X.env = (do
      let ov ← eval o X.env
      standAt apos.atName
      let (f, first) ← holding [ov] (getMethod ov m pl)
      callWith pos f first (backTo pos (starEach (e :: es) X.env)) (backToKw pos (keywordEach [] X.env))) := by rfl) :
    PE X (.Call (.Attribute o m apos) (e :: es) [] pos) (tMeth C m sp dvs E ta t) := by
  intro pins s σ H Q I h
  refine PySem.W.methodCall_KW (pl := pl) (thn (he pins s σ H _ I h) fun u s1 ⟨x, H1, I1, rx, a, dx, fs, ex, ea, l, q⟩ => ?_) ht
  subst ex
  obtain rfl : u = Value.ref a := rx
  refine getmeth_ok I1 ea c hm l ?_
  refine PySem.W.callWith_K (first := [.ref a]) (h₀ := X.base) I.ok.mod.kin hm.kp (thn (ha pos pins s1 σ H1 _ I1 q) fun us s2 ⟨vs, H2, I2, r, q2⟩ => ⟨I2.kIn, ?_⟩) hst hpl
  exact run_fn (us := .ref a :: us) (vs := .ref a :: vs) F hr hb hd hx I2 (.cons rfl r) q2
theorem pe_meth0 {pl : Sem Bool} (he : PE X o ta) (c : Cls X.K C) (hm : Meth X.K C m f) (F : FnOk X.prog X.w X.K X.mg X.base CX k f fd ps sp) (hr : Room k X.A) (hb : Binds X.K fd ps ds) (hd : Vals dvs ds) (hx : Passes CX X E)
    (ht : eval (.Call (.Attribute o m apos) [] [] pos) X.env = (do
      let ov ← eval o X.env
      standAt apos.atName
      let (f, first) ← holding [ov] (getMethod ov m pl)
      callWith pos f first (backTo pos (starEach [] X.env)) (backToKw pos (keywordEach [] X.env))) := by rfl) :
    PE X (.Call (.Attribute o m apos) [] [] pos) (tMeth C m sp dvs E ta tNil) := by
  intro pins s σ H Q I h
  refine PySem.W.methodCall_KW (pl := pl) (thn (he pins s σ H _ I h) fun u s1 ⟨x, H1, I1, rx, a, dx, fs, ex, ea, l, q⟩ => ?_) ht
  subst ex
  obtain rfl : u = Value.ref a := rx
  refine getmeth_ok I1 ea c hm l ?_
  exact PySem.W.callWith_K0 (first := [.ref a]) I1.kIn hm.kp (run_fn (us := [.ref a]) (vs := [.ref a]) F hr hb hd hx I1 (.cons rfl .nil) q)
structure Mk (K : PySem.W.Frag) (C f : Addr) : Prop where
  makes : PySem.W.makesIn K C = true
  init : PySem.W.findIn K (.ref C) "__init__" = some (some (.ref f))
  fn : PySem.W.isFn K (.ref f) = true
  kp : PySem.W.keepIn K (.ref C) = true
theorem run_make {pins : List (Addr × Obj)} {σ : St} {H : Hp} {s : Shared} {Q : VK} {us : List Value} {vs : List V} (M : Mk X.K C f) (F : FnOk X.prog X.w X.K X.mg X.base CX k f fd ps sp) (hr : Room (k + 1) X.A) (hb : Binds X.K fd ps ds) (hd : Vals dvs ds)
    (hx : Passes CX X E) (I : Inv X pins σ H s) (r : Vals vs us)
    (h : ∀ x dx, H x = none → H dx = none → dx ≠ x → sp (.ref x :: (vs ++ dvs)) (upd (upd H dx (.own x)) x (.ins C dx [])) (fun v H2 => v = .non ∧ Q (.ref x) H2) E) :
    wpAny (model X.prog X.w) X.A (call (.ref C) us) (EP X pins σ Q) X.xe s := by
  have hq := h (s.heap.objs.size + 1) s.heap.objs.size (I.hok.fresh (Nat.le_succ _)) (I.hok.fresh (Nat.le_refl _)) (Nat.ne_of_lt (Nat.lt_succ_self _))
  have I2 := Inv.made (C := C) I
  have r2 : Vals (V.ref (s.heap.objs.size + 1) :: (vs ++ dvs)) (Value.ref (s.heap.objs.size + 1) :: (us ++ ds)) := .cons rfl (r.append hd)
  have hl : (Value.ref (s.heap.objs.size + 1) :: us ++ ds).length = ps.length := by
    have e := r2.length
    rw [F.len _ _ _ _ hq] at e
    exact e.symm
  refine wpAny_call (make_map (f := f) I.kIn M.makes M.init (beq_iff_eq.mp M.fn) (codeAny_mono (F.run _ X.stack _ _ ⟨Value.ref (s.heap.objs.size + 1) :: us, []⟩ (Value.ref (s.heap.objs.size + 1) :: (us ++ ds)) _ _ E (hr.make C us [])
    (I2.env0.make C us []) (hb _ (Value.ref (s.heap.objs.size + 1) :: us) I2.kIn hl) r2 hq) fun r s' hq' => ?_))
  cases r with
  | error e => exact hx pins σ _ _ e s' I2 hq'
  | ok fl =>
    cases fl with
    | ret u =>
      obtain ⟨v, H', I3, rv, ev, q3⟩ := I2.after hq'
      subst ev
      exact ⟨rv, ⟨V.ref (s.heap.objs.size + 1), H', I3, rfl, q3⟩⟩
    | next => exact False.elim hq'
    | brk => exact False.elim hq'
    | cont => exact False.elim hq'
theorem pe_make (M : Mk X.K C f) (F : FnOk X.prog X.w X.K X.mg X.base CX k f fd ps sp) (hr : Room (k + 1) X.A) (hg : Gl X x) (hm : X.mg x = some (.ref C)) (hb : Binds X.K fd ps ds) (hd : Vals dvs ds) (hx : Passes CX X E)
    (ha : PA X (e :: es) t) (hdb : (x == ("__debug__" : Str)) = false := by decide) (he : starEach (e :: es) X.env = (false, eval e X.env) :: starEach es X.env := by rfl) (hpl : (backTo pos (starEach es X.env)).any (·.1) = false := by rfl) :
    PE X (.Call (.Name x p) (e :: es) [] pos) (tMake C sp dvs E t) := by
  intro pins s σ H Q I h
  refine wpAny_Call_Name_kw (ld_glob I hg hm ?_ hdb)
  refine PySem.W.callWith_K (h₀ := X.base) I.ok.mod.kin M.kp (thn (ha pos pins s σ H _ I h) fun us s1 ⟨vs, H1, I1, r, q⟩ => ⟨I1.kIn, ?_⟩) he hpl
  exact run_make M F hr hb hd hx I1 r q
theorem pe_make0 (M : Mk X.K C f) (F : FnOk X.prog X.w X.K X.mg X.base CX k f fd ps sp) (hr : Room (k + 1) X.A) (hg : Gl X x) (hm : X.mg x = some (.ref C)) (hb : Binds X.K fd ps ds) (hd : Vals dvs ds) (hx : Passes CX X E)
    (hdb : (x == ("__debug__" : Str)) = false := by decide) : PE X (.Call (.Name x p) [] [] pos) (tMake C sp dvs E tNil) := by
  intro pins s σ H Q I h
  refine wpAny_Call_Name_kw (ld_glob I hg hm ?_ hdb)
  exact PySem.W.callWith_K0 I.kIn M.kp (run_make (us := []) M F hr hb hd hx I .nil h)
end
section
variable {X : Cx} {CX : CXT} {k : Nat} {f C : Addr} {fd : FuncData} {ps ks : List Str} {sp : Sp} {E : XK} {x m : Str} {p pos apos kpos : Pos} {e o : Expr} {es : List Expr} {kws : List Keyword} {te ta : TE} {t tk : TA} {nm : Option Str}
variable {g : List Value → List Value → List Value} {gV : List V → List V → List V}
end
structure FnScope (N P : List Str) (sc : Scope) : Prop where
  kind : sc.kind = .function
  co : sc.isCoroutine = false
  gen : sc.isGenerator = false
  nd : N.Nodup
  pre : N.take P.length = P
  par : ∀ x ∈ P, sc.names.lookup x = some .local ∨ sc.names.lookup x = some .cell
  nofree : ∀ y ∈ sc.names, y.2 ≠ .free
theorem bindL_out {kindOf : Str → Option NameKind} {x : Str} : ∀ {binds : List (Str × Value)} {m : Str → Option Value}, (∀ v, (x, v) ∉ binds) → bindL kindOf binds m x = m x
  | [], _, _ => rfl
  | (n, v) :: r, m, h => by
    unfold bindL
    rw [bindL_out fun w hw => h w (List.mem_cons_of_mem _ hw)]
    split
    · have : x ≠ n := by rintro rfl; exact h v List.mem_cons_self
      simp [this]
    · rfl
theorem bindC_out {kindOf : Str → Option NameKind} {x : Str} : ∀ {binds : List (Str × Value)} {m : Str → Option Value}, (∀ v, (x, v) ∉ binds) → bindC kindOf binds m x = m x
  | [], _, _ => rfl
  | (n, v) :: r, m, h => by
    unfold bindC
    rw [bindC_out fun w hw => h w (List.mem_cons_of_mem _ hw)]
    split
    · rfl
    · have : x ≠ n := by rintro rfl; exact h v List.mem_cons_self
      simp [this]
theorem bindL_get {kindOf : Str → Option NameKind} {x : Str} {v : Value} : ∀ {P : List Str} {vs : List Value} {i : Nat} {m : Str → Option Value}, P.Nodup → P[i]? = some x → vs[i]? = some v → kindOf x = some .local →
    bindL kindOf (P.zip vs) m x = some v
  | [], _, _, _, _, h, _, _ => by simp at h
  | _ :: _, [], _, _, _, _, h, _ => by simp at h
  | p :: P, w :: vs, 0, m, nd, h1, h2, hk => by
    simp at h1 h2; subst h1; subst h2
    show bindL kindOf ((p, w) :: P.zip vs) m p = _
    unfold bindL
    rw [bindL_out fun v hv => (List.nodup_cons.mp nd).1 (List.of_mem_zip hv).1, if_pos hk]
    simp
  | p :: P, w :: vs, i + 1, m, nd, h1, h2, hk => by
    show bindL kindOf ((p, w) :: P.zip vs) m x = _
    unfold bindL
    exact bindL_get (i := i) (List.nodup_cons.mp nd).2 (by simpa using h1) (by simpa using h2) hk
theorem bindC_get {kindOf : Str → Option NameKind} {x : Str} {v : Value} : ∀ {P : List Str} {vs : List Value} {i : Nat} {m : Str → Option Value}, P.Nodup → P[i]? = some x → vs[i]? = some v → kindOf x ≠ some .local →
    bindC kindOf (P.zip vs) m x = some v
  | [], _, _, _, _, h, _, _ => by simp at h
  | _ :: _, [], _, _, _, _, h, _ => by simp at h
  | p :: P, w :: vs, 0, m, nd, h1, h2, hk => by
    simp at h1 h2; subst h1; subst h2
    show bindC kindOf ((p, w) :: P.zip vs) m p = _
    unfold bindC
    rw [bindC_out fun v hv => (List.nodup_cons.mp nd).1 (List.of_mem_zip hv).1, if_neg hk]
    simp
  | p :: P, w :: vs, i + 1, m, nd, h1, h2, hk => by
    show bindC kindOf ((p, w) :: P.zip vs) m x = _
    unfold bindC
    exact bindC_get (i := i) (List.nodup_cons.mp nd).2 (by simpa using h1) (by simpa using h2) hk
def start (N : List Str) (vs : List V) : St := vs.map some ++ List.replicate (N.length - vs.length) none
def cxOf (CX : CXT) (P : Program) (w : World) (K : PySem.W.Frag) (mg : Str → Option Value) (base : Heap) (N : List Str) (qual : Str) (scope : Scope) (f : Addr) (cd : Value) (A : Around) (outer : List Env) (s : Shared) (H : Hp) (E : XK) : Cx where
  prog := P
  w := w
  K := K
  mg := mg
  base := base
  A := A.deeper (envOfC qual scope s.heap.objs.size f cd)
  N := N
  s₀ := s
  H₀ := H
  env := envOfC qual scope s.heap.objs.size f cd
  outer := outer
  stack := envOfC qual scope s.heap.objs.size f cd :: outer
  ex := []
  calm := true
  fn := fun _ => true
  pn := []
  xe := fun e s' => wpAny (model P w) (A.deeper (envOfC qual scope s.heap.objs.size f cd)) (leaving (envOfC qual scope s.heap.objs.size f cd) e) (fun _ s'' => CX outer H s E e s'') (fun e' s'' => CX outer H s E e' s'') s'
theorem cell_has {sc : Scope} {n : Nat} {x : Str} (h : sc.names.lookup x = some .cell) : ∃ c, (cellsFrom n sc.names []).lookup x = some c := by
  have q := PySem.W.cellsFrom_some sc.names n [] (.inl h)
  exact Option.isSome_iff_exists.mp q
theorem inv_start {CX : CXT} {P : Program} {w : World} {K : PySem.W.Frag} {mg : Str → Option Value} {base : Heap} {N ps : List Str} {qual : Str} {scope : Scope} {f : Addr} {cd : Value} {A : Around} {outer : List Env} {s s1 : Shared} {H : Hp} {E : XK} {us : List Value} {vs : List V}
    (S : FnScope N ps scope) (hd : A.handled = none) (e0 : Env0 P w K mg base A outer s H) (hl : vs.length = ps.length) (r : Vals vs us)
    (x : InCallC s s.heap.objs.size (bindL (envOfC qual scope s.heap.objs.size f cd).kindOf (ps.zip us) fun _ => none) (cellsFrom (s.heap.objs.size + 1) scope.names []) (bindC (envOfC qual scope s.heap.objs.size f cd).kindOf (ps.zip us) fun _ => none) s1) :
    Inv (cxOf CX P w K mg base N qual scope f cd A outer s H E) [] (start N vs) H s1 := by
  have hpl : ps.length ≤ N.length := by have := congrArg List.length S.pre; rw [List.length_take] at this; omega
  obtain ⟨h1, tk, rfl, hk⟩ := x.done
  have noA : ∀ b : Addr, b ∉ (cxOf CX P w K mg base N qual scope f cd A outer s H E).ex := fun b z => absurd (show b ∈ ([] : List Addr) from z) (by simp)
  refine ⟨⟨e0.mod, S.kind, rfl, rfl, Nat.le_refl _, fun y z c h1 h2 => ?_, fun y hy => ?_, fun y c _ h => ?_, fun _ => hd, Around.frames_deeper e0.frames, .inr ⟨rfl, rfl⟩, fun b z => absurd z (noA b), e0.bs, e0.bsz, fun b _ _ => noA b, fun b z => absurd z (noA b), e0.funs, e0.frf⟩,
    rfl, e0.bare, Un.kept hk, ⟨_, x.toInCall.ns, fun i y v h1 h2 h3 => ?_⟩, fun y c h => ⟨_, x.cell y c h⟩, e0.hok.fresh (Nat.le_refl _), fun y c h => ?_, fun p hp => absurd (show p ∈ ([] : List (Addr × Obj)) from hp) (by simp), e0.hok.kept hk, ?_⟩
  · exact name_of_addr x.apart (PySem.mem_of_lookup h1) (PySem.mem_of_lookup h2)
  · have hy : scope.names.lookup y = some .cell ∨ scope.names.lookup y = some .free := hy
    rcases hy with hy | hy
    · exact cell_has hy
    · exact absurd rfl (S.nofree _ (PySem.mem_of_lookup hy))
  · exact Nat.le_of_lt (x.above y c (PySem.mem_of_lookup h))
  · have hi : i < vs.length := by
      unfold start at h2
      by_cases hi : i < vs.length
      · exact hi
      · rw [List.getElem?_append_right (by simpa using hi)] at h2
        rw [List.getElem?_replicate] at h2
        split at h2 <;> cases h2
    have ha : vs[i]? = some v := by
      unfold start at h2
      rw [List.getElem?_append_left (by simpa using hi), List.getElem?_map] at h2
      cases e : vs[i]? with
      | none => rw [e] at h2; cases h2
      | some a => rw [e] at h2; cases h2; rfl
    obtain ⟨u, hu, rv⟩ := r.get ha
    have hp : ps[i]? = some y := by
      rw [← S.pre, List.getElem?_take_of_lt (by omega)]; exact h1
    have ndP : ps.Nodup := by rw [← S.pre]; exact S.nd.sublist (List.take_sublist _ _)
    refine ⟨u, rv, ?_⟩
    rcases S.par y (List.mem_of_getElem? hp) with k | k
    · exact .inl ⟨k, bindL_get ndP hp hu k⟩
    · obtain ⟨c, e⟩ := cell_has (n := s.heap.objs.size + 1) k
      refine .inr ⟨.inl k, c, e, ?_⟩
      have q := x.cell y c e
      rw [bindC_get ndP hp hu (by show scope.names.lookup y ≠ _; rw [k]; decide)] at q
      exact q
  · exact e0.hok.fresh (Nat.le_of_lt (x.above y c (PySem.mem_of_lookup h)))
  · unfold start
    show _ = N.length
    rw [List.length_append, List.length_map, List.length_replicate]
    omega
theorem fn_of {CX : CXT} {P : Program} {w : World} {K : PySem.W.Frag} {mg : Str → Option Value} {base : Heap} {k : Nat} {f : Addr} {name qual : Str} {params : Arguments} {body : List Stmt} {scope : Scope} {dV kV doc pm cdv ct oc : Value} {an od : Option Addr}
    {osl : Array (Option Value)} {N ps : List Str} {sp : Sp} (lk : K.lookup f = some ⟨oc, od, .func (PySem.W.fnOf name qual params body scope dV kV doc pm an cdv ct), osl⟩) (hcd : PySem.W.codeIn K cdv qual = true) (S : FnScope N ps scope)
    (len : ∀ vs H Q E, sp vs H Q E → vs.length = ps.length)
    (hbody : ∀ (A : Around) (outer : List Env) (s : Shared) (H : Hp) (vs : List V) (Q : VK) (E : XK), Room k (A.deeper (envOfC qual scope s.heap.objs.size f cdv)) → sp vs H Q E →
      ∃ t, PSs (cxOf CX P w K mg base N qual scope f cdv A outer s H E) body t ∧ t { nx := fun _ H' => Q .non H', rt := Q } (start N vs) H) :
    FnOk P w K mg base CX (k + 1) f (PySem.W.fnOf name qual params body scope dV kV doc pm an cdv ct) ps sp := by
  refine ⟨len, fun A outer s H args us vs Q E hr e0 hb r hsp => ?_⟩
  have hl := len _ _ _ _ hsp
  have KX : K.In s.heap := e0.mod.kin.keeps fun b o e => (e0.bs b o e).1
  have lim : s.heap.NoLimit := e0.mod.nolimit.keeps fun b o e => (e0.bs b o e).1
  have hkind : ∀ y ∈ ps.zip us, scope.names.lookup y.1 = some .local ∨ (scope.names.lookup y.1 = some .cell ∧ ((cellsFrom (s.heap.objs.size + 1) scope.names []).lookup y.1).isSome = true) := fun ⟨n, v⟩ hy => by
    rcases S.par n (List.of_mem_zip hy).1 with q | q
    · exact .inl q
    · exact .inr ⟨q, PySem.W.cellsFrom_some _ _ _ (.inl q)⟩
  refine codeAny_call_function hr.depth (KX _ _ lk) rfl S.co S.gen rfl (PySem.W.codeRec_of KX hcd) (hb _ _ _ _ ?_)
  refine wpAny_newFunctionEnv_cells S.kind hkind fun env he s1 x => ?_
  subst he
  refine ⟨lim.keeps x.toInCall.keep, codeAny_func ?_⟩
  obtain ⟨t, ht, hq⟩ := hbody A outer s H vs Q E (hr.deeper _) hsp
  have I : Inv (cxOf CX P w K mg base N qual scope f cdv A outer s H E) [] (start N vs) H s1 := inv_start S hr.hd e0 hl r x
  refine wpAny_mono (ht [] s1 (start N vs) H _ I hq) (fun fl s' hs => ?_) fun e s' hs => hs
  have fin : ∀ {σ' : St} {H' : Hp} {v : V} {u : Value}, Inv (cxOf CX P w K mg base N qual scope f cdv A outer s H E) [] σ' H' s' → RelV v u → Q v H' → CE outer P w H s Q u s' :=
    fun {σ' H' v u} J rv q => ⟨v, H', J.os, J.bare, J.base, J.hok, rv, q⟩
  cases fl with
  | ret u =>
    obtain ⟨v, σ', H', J, rv, q⟩ := hs
    exact fin J rv q
  | next =>
    obtain ⟨σ', H', J, q⟩ := hs
    exact fin (v := V.non) (u := Value.none) J rfl q
  | brk =>
    obtain ⟨_, _, _, q⟩ := hs
    exact False.elim q
  | cont =>
    obtain ⟨_, _, _, q⟩ := hs
    exact False.elim q
end L2
namespace L2
open PySem PySem.Spec PyProof.Rows
section
variable {X : Cx} {x : Str} {p pos : Pos} {e : Expr} {es : List Expr} {t : TA} {id T : String} {r : List V → Hp → VK → Prop}
def tCB (r : List V → Hp → VK → Prop) (t : TA) : TE := fun σ H Q => t σ H fun vs H1 => r vs H1 Q
theorem pe_callB (hc : CallR X (.builtin id) r) (hg : Gl X x) (hm : X.mg x = none) (hv : bootBuiltins x = some (.builtin id)) (ha : PA X (e :: es) t) (hn : x ≠ "__name__" := by decide) (hdb : (x == ("__debug__" : Str)) = false := by decide)
    (he : starEach (e :: es) X.env = (false, eval e X.env) :: starEach es X.env := by rfl) (hpl : (backTo pos (starEach es X.env)).any (·.1) = false := by rfl) : PE X (.Call (.Name x p) (e :: es) [] pos) (tCB r t) := by
  intro pins s σ H Q I h
  refine wpAny_Call_Name_kw (ld_blt I hg hm hv ?_ hn hdb)
  exact PyProof.Rows.callWith_builtin1 (thn (ha pos pins s σ H _ I h) fun us s1 ⟨vs, H1, I1, r1, q1⟩ => hc pins s1 σ H1 vs us Q I1 r1 q1) he hpl
theorem pe_callTy (hc : CallR X (.type T) r) (hg : Gl X x) (hm : X.mg x = none) (hv : bootBuiltins x = some (.type T)) (ha : PA X (e :: es) t) (hn : x ≠ "__name__" := by decide) (hdb : (x == ("__debug__" : Str)) = false := by decide)
    (he : starEach (e :: es) X.env = (false, eval e X.env) :: starEach es X.env := by rfl) (hpl : (backTo pos (starEach es X.env)).any (·.1) = false := by rfl) : PE X (.Call (.Name x p) (e :: es) [] pos) (tCB r t) := by
  intro pins s σ H Q I h
  refine wpAny_Call_Name_kw (ld_blt I hg hm hv ?_ hn hdb)
  exact PyProof.Rows.callWith_type1 (thn (ha pos pins s σ H _ I h) fun us s1 ⟨vs, H1, I1, r1, q1⟩ => hc pins s1 σ H1 vs us Q I1 r1 q1) he hpl
end
end L2
namespace HT
open PySem PyProof.Rows
section
open PySem.SeqAt
open PySem.AutoSeq1 (wpAny_loadPart')
open PySem.MeetsSeq PySem.MeetsSeq2 PySem.MeetsSeq3
end
section
variable {prog : Program} {w : World} {A : Around} {E : Value → Shared → Prop} {s : Shared}
def sIx (n d : Nat) : Option Int → Nat
  | none => d
  | some v => if v < 0 then (v + (n : Int)).toNat else min v.toNat n
theorem sIx_none (n d : Nat) : sIx n d none = d := rfl
theorem sIx_nat (n d k : Nat) : sIx n d (some (k : Int)) = min k n := by
  show (if (k : Int) < 0 then ((k : Int) + (n : Int)).toNat else min (k : Int).toNat n) = min k n
  rw [if_neg (by omega), Int.toNat_natCast]
end
end HT
namespace L2
open PySem PySem.Spec PyProof.Rows
abbrev TO := St → Hp → (Option Int → Hp → Prop) → Prop
def PO (X : Cx) (e : Option Expr) (t : TO) : Prop :=
  ∀ (pins : List (Addr × Obj)) (s : Shared) (σ : St) (H : Hp) (Q : Option Int → Hp → Prop), Inv X pins σ H s → t σ H Q →
    wpAny (model X.prog X.w) X.A (evalPart e X.env) (fun u s' => ∃ o H', Inv X pins σ H' s' ∧ IsPart u o ∧ Q o H') X.xe s
def tNoPart : TO := fun _ H Q => Q none H
def tPart (t : TE) : TO := fun σ H Q => t σ H fun x H1 => ∃ i, x = .int i ∧ Q (some i) H1
section
variable {X : Cx} {e : Expr} {te : TE} {lo hi : Option Expr} {tl th : TO} {pos p2 : Pos}
theorem po_none : PO X none tNoPart := by
  intro pins s σ H Q I h
  rw [evalPart_none]
  exact wpAny_pure ⟨none, H, I, .none, h⟩
theorem po_some (h : PE X e te) : PO X (some e) (tPart te) := by
  intro pins s σ H Q I hw
  rw [evalPart_some]
  refine thn (h pins s σ H _ I hw) fun u s1 ⟨x, H1, I1, r1, q1⟩ => ?_
  obtain ⟨i, rfl, q⟩ := q1
  obtain ⟨t, rfl⟩ := r1
  exact ⟨some i, H1, I1, .int i t, q⟩
def SlR (X : Cx) (r : V → Option Int → Option Int → Hp → VK → Prop) : Prop :=
  ∀ (pins : List (Addr × Obj)) (s : Shared) (σ : St) (H : Hp) (x : V) (v vl vu : Value) (lo hi : Option Int) (sl : Addr) (Q : VK), Inv X pins σ H s → RelV x v → s.heap.IsSliceOf sl vl vu .none → IsPart vl lo → IsPart vu hi → r x lo hi H Q →
    ∃ T id, typeLookup (.type T) "__getitem__" = pure (some (.builtin id)) ∧ s.TypeIs v T ∧ wpAny (model X.prog X.w) X.A (getItem v (.ref sl)) (EP X pins σ Q) X.xe s
theorem SlR.or {r r' : V → Option Int → Option Int → Hp → VK → Prop} (h : SlR X r) (h' : SlR X r') : SlR X (fun x lo hi H Q => r x lo hi H Q ∨ r' x lo hi H Q) := by
  intro pins s σ H x v vl vu lo hi sl Q I rx hs pl pu q
  rcases q with q | q
  · exact h pins s σ H x v vl vu lo hi sl Q I rx hs pl pu q
  · exact h' pins s σ H x v vl vu lo hi sl Q I rx hs pl pu q
def tSl (r : V → Option Int → Option Int → Hp → VK → Prop) (te : TE) (tl th : TO) : TE := fun σ H Q => te σ H fun x H1 => tl σ H1 fun l H2 => th σ H2 fun u H3 => r x l u H3 Q
theorem pe_slice {r : V → Option Int → Option Int → Hp → VK → Prop} (hr : SlR X r) (he : PE X e te) (hl : PO X lo tl) (hu : PO X hi th) : PE X (.Subscript e (.Slice lo hi none p2) pos) (tSl r te tl th) := by
  intro pins s σ H Q I h
  refine Subscript_ (thn (he pins s σ H _ I h) fun v s1 ⟨x, H1, I1, r1, q1⟩ => ?_)
  refine wpAny_Slice (thn (hl pins s1 σ H1 _ I1 q1) fun vl s2 ⟨l, H2, I2, pl, q2⟩ => thn (hu pins s2 σ H2 _ I2 q2) fun vu s3 ⟨u, H3, I3, pu, q3⟩ => ?_)
  rw [evalPart_none]
  refine wpAny_pure ?_
  have I4 : Inv X pins σ H3 { s3 with heap := s3.heap.push { cls := .type "slice", data := .fields #[vl, vu, .none] } } := I3.kept (t' := s3.toks) fun b ob q => Heap.get?_push_of_some _ q
  obtain ⟨T, id, hT, ht, hg⟩ := hr pins { s3 with heap := s3.heap.push { cls := .type "slice", data := .fields #[vl, vu, .none] } } σ H3 x v vl vu l u s3.heap.objs.size Q I4 r1 (Heap.IsSliceOf.new ..) pl pu q3
  show wpAny (model X.prog X.w) X.A (subscriptTail e (.Slice lo hi none p2) v (.ref s3.heap.objs.size)) (EP X pins σ Q) X.xe { s3 with heap := s3.heap.push { cls := .type "slice", data := .fields #[vl, vu, .none] } }
  exact tail_any (ops := [.ref s3.heap.objs.size, v]) ht hT hg (by with_unfolding_all rfl)
def cutV (xs : List V) (lo hi : Option Int) : List V := (xs.drop (HT.sIx xs.length 0 lo)).take (HT.sIx xs.length xs.length hi - HT.sIx xs.length 0 lo)
theorem cutV_length (xs : List V) (lo hi : Option Int) : (cutV xs lo hi).length ≤ xs.length := by
  unfold cutV
  rw [List.length_take, List.length_drop]
  omega
end
end L2
namespace L2
open PySem PySem.Spec PyProof.Rows
def ixN (n : Nat) (i : Int) : Option Nat := if 0 ≤ i then (if i < n then some i.toNat else none) else if -(n : Int) ≤ i then some (i + n).toNat else none
def atI {α : Type} (xs : List α) (i : Int) : Option α := (ixN xs.length i).bind fun j => xs[j]?
theorem ixN_seq {n : Nat} {i : Int} {j : Nat} (h : ixN n i = some j) : seqIndex? i n = some j ∧ j < n ∧ -(n : Int) ≤ i ∧ i < n := by
  unfold ixN at h
  by_cases h0 : 0 ≤ i
  · rw [if_pos h0] at h
    by_cases h1 : i < n
    · rw [if_pos h1] at h
      have e : i.toNat = j := Option.some.inj h
      exact ⟨by rw [seqIndex_of h0 h1, e], by omega, by omega, h1⟩
    · rw [if_neg h1] at h; cases h
  · rw [if_neg h0] at h
    by_cases h1 : -(n : Int) ≤ i
    · rw [if_pos h1] at h
      have e : (i + n).toNat = j := Option.some.inj h
      exact ⟨by rw [seqIndex_neg (by omega) h1, e], by omega, h1, by omega⟩
    · rw [if_neg h1] at h; cases h
theorem atI_get {α : Type} {xs : List α} {i : Int} {v : α} (h : atI xs i = some v) : ∃ j, seqIndex? i xs.length = some j ∧ xs[j]? = some v ∧ j < xs.length ∧ -(xs.length : Int) ≤ i ∧ i < xs.length := by
  unfold atI at h
  cases e : ixN xs.length i with
  | none => rw [e] at h; cases h
  | some j =>
    rw [e] at h
    obtain ⟨h1, h2, h3, h4⟩ := ixN_seq e
    exact ⟨j, h1, h, h2, h3, h4⟩
theorem atI_nat {α : Type} {xs : List α} {j : Nat} {v : α} (h : xs[j]? = some v) : atI xs (j : Int) = some v := by
  have hj : j < xs.length := (List.getElem?_eq_some_iff.mp h).1
  have e : ixN xs.length (j : Int) = some j := by
    unfold ixN
    rw [if_pos (by omega), if_pos (by omega)]; simp
  unfold atI; rw [e]; exact h
def PlainIx (b : Expr) : Prop := ∀ o i, subscripted b false o i = operate [o, i] (getItem o i)
def IxR (X : Cx) (r : R2) : Prop :=
  ∀ (value slice : Expr) (pins : List (Addr × Obj)) (s : Shared) (σ : St) (H : Hp) (x y : V) (v u : Value) (Q : VK), Inv X pins σ H s → RelV x v → RelV y u → r x y H Q →
    subscripted slice false v u = operate [v, u] (getItem v u) → wpAny (model X.prog X.w) X.A (subscriptTail value slice v u) (EP X pins σ Q) X.xe s
def MtR (X : Cx) (id : String) (r : V → List V → Hp → VK → Prop) : Prop :=
  ∀ (pins : List (Addr × Obj)) (s : Shared) (σ : St) (H : Hp) (x : V) (xs : List V) (v : Value) (us : List Value) (Q : VK), Inv X pins σ H s → RelV x v → Vals xs us → r x xs H Q →
    wpAny (model X.prog X.w) X.A (call (.builtin id) (v :: us)) (EP X pins σ Q) X.xe s
section
variable {X : Cx} {a b : Expr} {ta tb : TE} {pos : Pos}
theorem IxR.or {r r' : R2} (h : IxR X r) (h' : IxR X r') : IxR X (fun x y H Q => r x y H Q ∨ r' x y H Q) := by
  intro value slice pins s σ H x y v u Q I rx ry q hs
  rcases q with q | q
  · exact h value slice pins s σ H x y v u Q I rx ry q hs
  · exact h' value slice pins s σ H x y v u Q I rx ry q hs
theorem MtR.or {id : String} {r r' : V → List V → Hp → VK → Prop} (h : MtR X id r) (h' : MtR X id r') : MtR X id (fun x xs H Q => r x xs H Q ∨ r' x xs H Q) := by
  intro pins s σ H x xs v us Q I rx rs q
  rcases q with q | q
  · exact h pins s σ H x xs v us Q I rx rs q
  · exact h' pins s σ H x xs v us Q I rx rs q
theorem pe_ix {r : R2} (hr : IxR X r) (ha : PE X a ta) (hb : PE X b tb) (hs : PlainIx b) : PE X (.Subscript a b pos) (tOp r ta tb) := by
  intro pins s σ H Q I h
  exact Subscript_ (binT ha hb I h fun v u s2 x y H2 I2 rx ry q => hr a b pins s2 σ H2 x y v u Q I2 rx ry q (hs _ _))
def rIxL (K : PySem.W.Frag) : R2 := fun x y H Q => ∃ p xs i v, x = .ref p ∧ y = .int i ∧ SqL K H p xs ∧ atI xs i = some v ∧ Q v H
def rIxT (K : PySem.W.Frag) : R2 := fun x y H Q => ∃ p xs i v, x = .ref p ∧ y = .int i ∧ SqT K H p xs ∧ atI xs i = some v ∧ Q v H
theorem ix_list : IxR X (rIxL X.K) := by
  intro value slice pins s σ H x y v u Q I rx ry h hs
  obtain ⟨p, xs, i, z, rfl, rfl, hq, he, q⟩ := h
  cases rx
  obtain ⟨t, rfl⟩ := ry
  obtain ⟨its, r, pl, hz⟩ := I.list hq
  obtain ⟨j, h1, h2, h3, h4, h5⟩ := atI_get he
  obtain ⟨w, ew, rw'⟩ := r.get h2
  have hl := r.length
  have hn := line63
  have fin : EP X pins σ Q w s := ⟨z, H, I, rw', q⟩
  by_cases h0 : 0 ≤ i
  · have hj : i.toNat = j := by
      rw [seqIndex_of h0 h5] at h1
      exact Option.some.inj h1
    exact item_listR pl.isList h0 (by omega) (by rw [hj]; simpa using ew) fin hs
  · have hj : (i + (its.toArray.size : Int)).toNat = j := by
      rw [seqIndex_neg (by omega) h4] at h1
      rw [List.size_toArray, ← hl]
      exact Option.some.inj h1
    exact subscriptTail_builtinR (x := w) pl.isList.typeIs slot_list_getitem.lookup
      (wpAny_getItem_list_neg (Q := fun r s' => r = w ∧ EP X pins σ Q r s') pl.isList (by omega) (by rw [List.size_toArray] <;> omega) (by omega) (by rw [hj]; simpa using ew) ⟨rfl, fin⟩) hs
theorem ix_tup : IxR X (rIxT X.K) := by
  intro value slice pins s σ H x y v u Q I rx ry h hs
  obtain ⟨p, xs, i, z, rfl, rfl, hq, he, q⟩ := h
  cases rx
  obtain ⟨t, rfl⟩ := ry
  obtain ⟨its, r, pl, hz⟩ := I.tuple hq
  obtain ⟨j, h1, h2, h3, h4, h5⟩ := atI_get he
  obtain ⟨w, ew, rw'⟩ := r.get h2
  have hl := r.length
  have hn := line63
  have fin : EP X pins σ Q w s := ⟨z, H, I, rw', q⟩
  exact subscriptTail_builtinR (x := w) pl.typeIs slot_tuple_getitem.lookup
    (getItem_tuple (j := j) (Q := fun r s' => r = w ∧ EP X pins σ Q r s') pl (by omega) (by omega) (by rw [List.size_toArray, ← hl]; exact h1) (by simpa using ew) ⟨rfl, fin⟩) hs
theorem Inv.lst {pins : List (Addr × Obj)} {σ : St} {H : Hp} {s : Shared} {p : Addr} {xs : List V} (I : Inv X pins σ H s) (h : H p = some (.lst xs)) :
    ∃ (its : List Value) (n : Nat), Vals xs its ∧ s.heap.get? p = some { cls := .type "list", data := .seq its.toArray n } ∧ xs.length ≤ sizeLine := by
  obtain ⟨z, its, n, r, e⟩ := I.hok p _ h
  exact ⟨its, n, r, e, z⟩
theorem slice_bounds (lo hi : Option Int) (n : Nat) : (sliceBounds lo hi none n).1 = ((HT.sIx n 0 lo : Nat) : Int) ∧ (sliceBounds lo hi none n).2.1 = ((HT.sIx n n hi : Nat) : Int) ∧ (sliceBounds lo hi none n).2.2 = 1 := by
  refine ⟨?_, ?_, rfl⟩
  · cases lo with
    | none => simp [sliceBounds, HT.sIx]
    | some i =>
      simp only [sliceBounds, HT.sIx, Option.getD_none, show (1 : Int) > 0 by decide, if_true]
      by_cases h : i < 0
      · simp only [h, if_true] <;> omega
      · simp only [h, if_false] <;> omega
  · cases hi with
    | none => simp [sliceBounds, HT.sIx]
    | some i =>
      simp only [sliceBounds, HT.sIx, Option.getD_none, show (1 : Int) > 0 by decide, if_true]
      by_cases h : i < 0
      · simp only [h, if_true] <;> omega
      · simp only [h, if_false] <;> omega
theorem slicePick_cut (its : List Value) (lo hi : Option Int) : slicePick its.toArray lo hi none = ((its.drop (HT.sIx its.length 0 lo)).take (HT.sIx its.length its.length hi - HT.sIx its.length 0 lo)).toArray := by
  obtain ⟨h1, h2, h3⟩ := slice_bounds lo hi its.toArray.size
  unfold slicePick
  rw [h1, h2, h3]
  simp only [sliceRange_one, pick_run, List.size_toArray] <;> rfl
def rSlL (K : PySem.W.Frag) : V → Option Int → Option Int → Hp → VK → Prop := fun x lo hi H Q => ∃ a xs, x = .ref a ∧ SqL K H a xs ∧ ∀ p, H p = none → Q (.ref p) (upd H p (.lst (cutV xs lo hi)))
theorem sl_list : SlR X (rSlL X.K) := by
  intro pins s σ H x v vl vu lo hi sl Q I rx hs pl pu h
  obtain ⟨a, xs, rfl, hx, q⟩ := h
  cases rx
  obtain ⟨its, r, ht, hz⟩ := I.list hx
  have hlen := r.length
  refine ⟨"list", _, slot_list_getitem.lookup, ht.isList.typeIs, ?_⟩
  refine wpAny_getItem_list_slice ht.isList hs pl pu .none (by simp) ?_ (by rw [List.size_toArray] <;> omega)
  rw [slicePick_cut, ← hlen]
  refine ⟨.ref s.heap.objs.size, _, I.laid (t' := s.toks) (o := .lst (cutV xs lo hi)) (fun b ob q => Heap.get?_push_of_some _ q) (Nat.le_refl _) ?_, rfl, q _ (I.hok.fresh (Nat.le_refl _))⟩
  exact ⟨Nat.le_trans (cutV_length xs lo hi) hz, _, 0, (r.drop (HT.sIx xs.length 0 lo)).take (HT.sIx xs.length xs.length hi - HT.sIx xs.length 0 lo), Heap.get?_push_size _ rfl⟩
def flatV : V → Bool
  | .non => true
  | .bl _ => true
  | .int _ => true
  | .str _ => true
  | _ => false
def eqV : V → V → Bool
  | .non, .non => true
  | .bl a, .bl b => a == b
  | .bl a, .int b => (if a then 1 else 0) == b
  | .int a, .bl b => a == (if b then 1 else 0)
  | .int a, .int b => a == b
  | .str a, .str b => a == b
  | _, _ => false
theorem eqAt_V {A : Around} {s : Shared} {y x : V} {u v : Value} (ry : RelV y u) (rx : RelV x v) (fy : flatV y = true) (fx : flatV x = true) : SeqAt.EqAt A s u v (eqV y x) := by
  cases y with
  | non =>
    cases ry
    cases x with
    | non => cases rx; exact SeqAt.EqAt.same _
    | bl b => cases rx; exact SeqAt.EqAt.none_bool b
    | int b => obtain ⟨t, rfl⟩ := rx; exact SeqAt.EqAt.none_int b t
    | str b => obtain ⟨t, rfl⟩ := rx; exact SeqAt.EqAt.none_str b t
    | _ => exact absurd (show false = true from fx) Bool.false_ne_true
  | bl a =>
    cases ry
    cases x with
    | non => cases rx; exact SeqAt.EqAt.bool_none a
    | bl b => cases rx; exact SeqAt.EqAt.bool_bool a b
    | int b => obtain ⟨t, rfl⟩ := rx; exact SeqAt.EqAt.bool_int a b t
    | str b => obtain ⟨t, rfl⟩ := rx; exact SeqAt.EqAt.bool_str a b t
    | _ => exact absurd (show false = true from fx) Bool.false_ne_true
  | int a =>
    obtain ⟨t', rfl⟩ := ry
    cases x with
    | non => cases rx; exact SeqAt.EqAt.int_none a t'
    | bl b => cases rx; exact SeqAt.EqAt.int_bool a t' b
    | int b => obtain ⟨t, rfl⟩ := rx; exact SeqAt.EqAt.int_int a t' b t
    | str b => obtain ⟨t, rfl⟩ := rx; exact SeqAt.EqAt.int_str a t' b t
    | _ => exact absurd (show false = true from fx) Bool.false_ne_true
  | str a =>
    obtain ⟨t', rfl⟩ := ry
    cases x with
    | non => cases rx; exact SeqAt.EqAt.str_none a t'
    | bl b => cases rx; exact SeqAt.EqAt.str_bool a t' b
    | int b => obtain ⟨t, rfl⟩ := rx; exact SeqAt.EqAt.str_int a t' b t
    | str b => obtain ⟨t, rfl⟩ := rx; exact SeqAt.EqAt.str_str a t' b t
    | _ => exact absurd (show false = true from fx) Bool.false_ne_true
  | _ => exact absurd (show false = true from fy) Bool.false_ne_true
def eqU (x : V) (u : Value) : Bool := match u with
  | .none => eqV .non x
  | .bool b => eqV (.bl b) x
  | .int i _ => eqV (.int i) x
  | .str z _ => eqV (.str z) x
  | _ => false
theorem eqU_of {x y : V} {u : Value} (r : RelV y u) (f : flatV y = true) : eqU x u = eqV y x := by
  cases y with
  | non => cases r; rfl
  | bl b => cases r; rfl
  | int i => obtain ⟨t, rfl⟩ := r; rfl
  | str z => obtain ⟨t, rfl⟩ := r; rfl
  | _ => exact absurd (show false = true from f) Bool.false_ne_true
theorem any_eqU {x : V} : ∀ {xs : List V} {us : List Value}, Vals xs us → xs.all flatV = true → us.any (eqU x) = xs.any fun y => eqV y x
  | _, _, .nil, _ => rfl
  | y :: xs, u :: us, .cons r t, f => by
    rw [List.all_cons, Bool.and_eq_true] at f
    rw [List.any_cons, List.any_cons, eqU_of r f.1, any_eqU t f.2]
theorem mem_eqAt {A : Around} {s : Shared} {x : V} {v : Value} (rx : RelV x v) (fx : flatV x = true) : ∀ {xs : List V} {us : List Value}, Vals xs us → xs.all flatV = true → ∀ u ∈ us, SeqAt.EqAt A s u v (eqU x u)
  | _, _, .nil, _ => fun u hu => by cases hu
  | y :: xs, u :: us, .cons r t, f => fun u' hu => by
    rw [List.all_cons, Bool.and_eq_true] at f
    rcases List.mem_cons.mp hu with rfl | hu
    · rw [eqU_of r f.1]; exact eqAt_V r rx f.1 fx
    · exact mem_eqAt rx fx t f.2 u' hu
def inV (x : V) (xs : List V) : Bool := xs.any fun y => eqV y x
def rIn (K : PySem.W.Frag) (neg : Bool) : R2 := fun x y H Q => ∃ p xs, y = .ref p ∧ (SqL K H p xs ∨ SqT K H p xs) ∧ flatV x = true ∧ xs.all flatV = true ∧ Q (.bl (if neg then !inV x xs else inV x xs)) H
theorem op_in_seq : OpR X (compareOp .In) (rIn X.K false) := by
  intro pins s σ H x y v u Q I rx ry h
  obtain ⟨p, xs, rfl, hq, fx, fs, q⟩ := h
  cases ry
  rcases hq with hq | hq
  · obtain ⟨its, r, pl, hz⟩ := I.list hq
    refine SeqAt.in_listAt (eqU x) pl.isList (fun w hw => mem_eqAt rx fx r fs w (by simpa using hw)) ⟨.bl _, H, I, rfl, ?_⟩
    rw [show its.toArray.any (eqU x) = its.any (eqU x) by simp, any_eqU r fs]
    exact q
  · obtain ⟨its, r, pl, hz⟩ := I.tuple hq
    refine SeqAt.in_tupleAt (eqU x) pl (fun w hw => mem_eqAt rx fx r fs w (by simpa using hw)) ⟨.bl _, H, I, rfl, ?_⟩
    rw [show its.toArray.any (eqU x) = its.any (eqU x) by simp, any_eqU r fs]
    exact q
theorem op_notIn_seq : OpR X (compareOp .NotIn) (rIn X.K true) := by
  intro pins s σ H x y v u Q I rx ry h
  obtain ⟨p, xs, rfl, hq, fx, fs, q⟩ := h
  cases ry
  rcases hq with hq | hq
  · obtain ⟨its, r, pl, hz⟩ := I.list hq
    refine SeqAt.notIn_listAt (eqU x) pl.isList (fun w hw => mem_eqAt rx fx r fs w (by simpa using hw)) ⟨.bl _, H, I, rfl, ?_⟩
    rw [show its.toArray.any (eqU x) = its.any (eqU x) by simp, any_eqU r fs]
    exact q
  · obtain ⟨its, r, pl, hz⟩ := I.tuple hq
    refine SeqAt.notIn_tupleAt (eqU x) pl (fun w hw => mem_eqAt rx fx r fs w (by simpa using hw)) ⟨.bl _, H, I, rfl, ?_⟩
    rw [show its.toArray.any (eqU x) = its.any (eqU x) by simp, any_eqU r fs]
    exact q
theorem call_len_seq : CallR X (.builtin "len") (fun xs H Q => ∃ p ys, xs = [.ref p] ∧ (SqL X.K H p ys ∨ SqT X.K H p ys) ∧ Q (.int ys.length) H) := by
  intro pins s σ H xs us Q I r h
  obtain ⟨p, ys, rfl, hq, q⟩ := h
  obtain ⟨u, rfl, rx⟩ := vals1 r
  cases rx
  have hn := line63
  rcases hq with hq | hq
  · obtain ⟨its, r', pl, hz⟩ := I.list hq
    have hlen := r'.length
    exact Calls.call_len_list pl.isList (by simp only [List.size_toArray] <;> omega) ⟨.int ys.length, H, I.tok _, ⟨s.toks + 1, by rw [List.size_toArray, hlen]⟩, q⟩
  · obtain ⟨its, r', pl, hz⟩ := I.tuple hq
    have hlen := r'.length
    exact len_tuple pl (by simp only [List.size_toArray] <;> omega) ⟨.int ys.length, H, I.tok _, ⟨s.toks + 1, by rw [List.size_toArray, hlen]⟩, q⟩
theorem call_len_str : CallR X (.builtin "len") (fun xs H Q => ∃ z, xs = [.str z] ∧ z.length ≤ sizeLine ∧ Q (.int z.length) H) := by
  intro pins s σ H xs us Q I r h
  obtain ⟨z, rfl, hz, q⟩ := h
  obtain ⟨u, rfl, t, rfl⟩ := vals1 r
  have hn := line63
  exact len_str (by omega) ⟨.int z.length, H, I.tok _, ⟨_, rfl⟩, q⟩
theorem CallR.or {f : Value} {r r' : List V → Hp → VK → Prop} (h : CallR X f r) (h' : CallR X f r') : CallR X f (fun xs H Q => r xs H Q ∨ r' xs H Q) := by
  intro pins s σ H xs us Q I rs q
  rcases q with q | q
  · exact h pins s σ H xs us Q I rs q
  · exact h' pins s σ H xs us Q I rs q
theorem call_list_of : CallR X (.type "list") (fun xs H Q => ∃ p ys, xs = [.ref p] ∧ (SqL X.K H p ys ∨ SqT X.K H p ys) ∧ ∀ l, H l = none → Q (.ref l) (upd H l (.lst ys))) := by
  intro pins s σ H xs us Q I r h
  obtain ⟨p, ys, rfl, hq, q⟩ := h
  obtain ⟨u, rfl, rx⟩ := vals1 r
  cases rx
  have fin : ∀ (its : List Value), Vals ys its → ys.length ≤ sizeLine → ∀ (h' : Heap) (c' : Nat), (∀ b o', s.heap.get? b = some o' → h'.get? b = some o') →
      h'.get? s.heap.objs.size = some { cls := .type "list", dict := none, data := .seq its.toArray c', slots := #[] } → EP X pins σ Q (.ref s.heap.objs.size) { s with heap := h' } := fun its r' hz h' c' kp e =>
    ⟨.ref s.heap.objs.size, _, I.laid (t' := s.toks) kp (Nat.le_refl _) (show ObjOk X.prog X.w _ h' _ (.lst ys) from ⟨hz, its, c', r', e⟩), rfl, q _ (I.hok.fresh (Nat.le_refl _))⟩
  rcases hq with hq | hq
  · obtain ⟨its, r', pl, hz⟩ := I.list hq
    have hlen := r'.length
    obtain ⟨o, ho, hc, n, hd⟩ := pl.isList
    exact call_list_seq p (.inl rfl) ho hc hd (fun h' c' kp e => fin its r' hz h' c' kp e) (by simp only [List.size_toArray] <;> omega)
  · obtain ⟨its, r', pl, hz⟩ := I.tuple hq
    have hlen := r'.length
    obtain ⟨o, ho, hc, n, hd⟩ := pl
    exact call_list_seq p (.inr rfl) ho hc hd (fun h' c' kp e => fin its r' hz h' c' kp e) (by simp only [List.size_toArray] <;> omega)
def tyV (K : PySem.W.Frag) (T : String) (x : V) (H : Hp) : Prop := match x with
  | .str _ => T = "str"
  | .int _ => T = "int"
  | .ref p => (T = "list" ∧ ∃ xs, SqL K H p xs) ∨ (T = "tuple" ∧ ∃ o, K.lookup p = some o ∧ o.cls = .type "tuple" ∧ o.dict = none) ∨
      (T = "dict" ∧ ((∃ kvs, H p = some (.dK kvs)) ∨ ∃ kvs, H p = some (.dT kvs))) ∨ (T = "set" ∧ ∃ S n, H p = some (.set S n))
  | _ => False
theorem tyV_is {pins : List (Addr × Obj)} {σ : St} {H : Hp} {s : Shared} {T : String} {x : V} {v : Value} (I : Inv X pins σ H s) (r : RelV x v) (ty : tyV X.K T x H) :
    s.TypeIs v T ∧ ∀ a, v = .ref a → ∃ ob, s.heap.get? a = some ob ∧ ob.dict = none := by
  cases x with
  | str z =>
    obtain ⟨t, rfl⟩ := r
    cases (show T = "str" from ty)
    exact ⟨typeIs_str s z t, fun _ e => nomatch e⟩
  | int i =>
    obtain ⟨t, rfl⟩ := r
    cases (show T = "int" from ty)
    exact ⟨typeIs_int s i t, fun _ e => nomatch e⟩
  | ref p =>
    cases r
    rcases ty with ⟨rfl, xs, hq⟩ | ⟨rfl, o, hk, hc, hd⟩ | ⟨rfl, hk⟩ | ⟨rfl, S, n, hk⟩
    · obtain ⟨its, _, pl, _⟩ := I.list hq
      refine ⟨pl.isList.typeIs, fun a e => ?_⟩
      cases e
      obtain ⟨o, n, e, c, hd, _⟩ := pl
      exact ⟨o, e, hd⟩
    · refine ⟨⟨o, I.kIn p o hk, hc⟩, fun a e => ?_⟩
      cases e
      exact ⟨o, I.kIn _ o hk, hd⟩
    · have z : ∃ o, s.heap.get? p = some o ∧ o.ExactDict := by
        rcases hk with ⟨kvs, hk⟩ | ⟨kvs, hk⟩
        · obtain ⟨_, _, _, _, o, _, _, e, ex, _⟩ := I.hok p _ hk
          exact ⟨o, e, ex⟩
        · obtain ⟨_, _, _, _, o, _, _, e, ex, _⟩ := I.hok p _ hk
          exact ⟨o, e, ex⟩
      obtain ⟨o, e, ex⟩ := z
      refine ⟨⟨o, e, ex.1⟩, fun a e2 => ?_⟩
      cases e2
      exact ⟨o, e, ex.2.1⟩
    · obtain ⟨o, _, _, _, e, ex, _⟩ := I.hok p _ hk
      refine ⟨⟨o, e, ex.1⟩, fun a e2 => ?_⟩
      cases e2
      exact ⟨o, e, ex.2.1⟩
  | _ => exact False.elim ty
def tBM0 (K : PySem.W.Frag) (T : String) (r : V → List V → Hp → VK → Prop) (to : TE) : TE := fun σ H Q => to σ H fun x H1 => tyV K T x H1 ∧ r x [] H1 Q
def tBM (K : PySem.W.Frag) (T : String) (r : V → List V → Hp → VK → Prop) (to : TE) (t : TA) : TE := fun σ H Q => to σ H fun x H1 => tyV K T x H1 ∧ t σ H1 fun xs H2 => r x xs H2 Q
variable {o e : Expr} {es : List Expr} {to : TE} {t : TA} {name : Str} {apos cpos : Pos} {T id : String} {r : V → List V → Hp → VK → Prop}
theorem pe_bm0 (pa : PlainAttrs T) (slot : Slot T name id) (hty : typeOf (.builtin id) = pure (.type "method_descriptor")) (hm : MtR X id r) (ho : PE X o to)
    (hbase : attributeBase o name X.env (eval o X.env) = eval o X.env := by rfl) (hline : (apos.endLine == cpos.line) = true := by rfl) : PE X (.Call (.Attribute o name apos) [] [] cpos) (tBM0 X.K T r to) := by
  intro pins s σ H Q I h
  refine wpAny_Call_method0_late hbase hline (thn (ho pins s σ H _ I h) fun v s1 ⟨x, H1, I1, r1, ty, q1⟩ => ?_)
  obtain ⟨h1, h2⟩ := tyV_is I1 r1 ty
  exact ⟨T, id, pa, slot, hty, h1, h2, Calls.callWith_builtin rfl (PySem.evalArgs_none (hm pins s1 σ H1 x [] v [] Q I1 r1 .nil q1))⟩
theorem pe_bm (pa : PlainAttrs T) (slot : Slot T name id) (hty : typeOf (.builtin id) = pure (.type "method_descriptor")) (hm : MtR X id r) (ho : PE X o to) (ha : PA X (e :: es) t)
    (hbase : attributeBase o name X.env (eval o X.env) = eval o X.env := by rfl)
    (hfew : ((backTo cpos (starEach (e :: es) X.env)).all (fun x => !x.1) && (backToKw cpos (keywordEach [] X.env)).all (fun x => x.1.isSome)
      && decide ((e :: es).length + ([] : List Keyword).length + (if ([] : List Keyword).isEmpty then 0 else 1) < 30)) = true := by rfl)
    (hline : (apos.endLine == cpos.line) = true := by rfl) (hs : starEach (e :: es) X.env = (false, eval e X.env) :: starEach es X.env := by rfl) (hplain : (backTo cpos (starEach es X.env)).any (·.1) = false := by rfl) :
    PE X (.Call (.Attribute o name apos) (e :: es) [] cpos) (tBM X.K T r to t) := by
  intro pins s σ H Q I h
  refine wpAny_Call_method_late hbase hfew hline rfl (thn (ho pins s σ H _ I h) fun v s1 ⟨x, H1, I1, r1, ty, q1⟩ => ?_)
  obtain ⟨h1, h2⟩ := tyV_is I1 r1 ty
  refine ⟨T, id, pa, slot, hty, h1, h2, ?_⟩
  have hA := ha cpos pins s1 σ H1 _ I1 q1
  rw [hs] at hA ⊢
  refine Calls.callWith_builtin (by show (false || (backTo cpos (starEach es X.env)).any (·.1)) = false; rw [hplain] <;> rfl) (Calls.evalArgs_plain ?_)
  exact thn hA fun us s2 ⟨vs, H2, I2, r2, q2⟩ => hm pins s2 σ H2 x vs v us Q I2 r1 r2 q2
end
end L2
namespace L2
open PySem PySem.Spec PyProof.Rows
def MtM (X : Cx) (id : String) (r : V → List V → Hp → VK → Prop) : Prop :=
  ∀ (pins : List (Addr × Obj)) (s : Shared) (σ : St) (H : Hp) (x : V) (xs : List V) (v : Value) (us : List Value) (Q : VK), Inv X pins σ H s → RelV x v → Vals xs us → r x xs H Q →
    wpAny (model X.prog X.w) X.A (call (.builtin id) (v :: us)) (EP X pins σ Q) X.xe s
theorem Vals.one : ∀ {x : V} {us : List Value}, Vals [x] us → ∃ u, us = [u] ∧ RelV x u
  | _, _, .cons r .nil => ⟨_, rfl, r⟩
theorem Vals.zero : ∀ {us : List Value}, Vals [] us → us = []
  | _, .nil => rfl
theorem Vals.dropLast {xs : List V} {us : List Value} (h : Vals xs us) : Vals xs.dropLast us.dropLast := by
  induction h with
  | nil => exact .nil
  | cons r t ih =>
    cases t with
    | nil => exact .nil
    | cons q t' => exact .cons r ih
theorem Vals.eraseIdx : ∀ {xs : List V} {us : List Value} (i : Nat), Vals xs us → Vals (xs.eraseIdx i) (us.eraseIdx i)
  | _, _, _, .nil => .nil
  | _, _, 0, .cons _ t => t
  | _, _, i + 1, .cons r t => .cons r (Vals.eraseIdx i t)
theorem erase_last {α : Type} (l : List α) : l.eraseIdx (l.length - 1) = l.dropLast := by
  induction l with
  | nil => rfl
  | cons a r ih =>
    cases r with
    | nil => rfl
    | cons b r =>
      have e : (a :: b :: r).length - 1 = ((b :: r).length - 1) + 1 := by
        have h1 : (a :: b :: r).length = r.length + 2 := rfl
        have h2 : (b :: r).length = r.length + 1 := rfl
        omega
      rw [e, List.eraseIdx_cons_succ, ih]
      all_goals rfl
theorem len_erase {α : Type} : ∀ (l : List α) (i : Nat), (l.eraseIdx i).length ≤ l.length
  | [], _ => Nat.le_refl _
  | _ :: _, 0 => Nat.le_succ _
  | _ :: r, i + 1 => Nat.succ_le_succ (len_erase r i)
section
variable {X : Cx} {pins : List (Addr × Obj)} {σ : St} {H : Hp} {s : Shared} {l b : Addr} {xs ys zs : List V}
theorem Inv.lset {its its' : List Value} {n : Nat} {f : Array Value → Array Value} {t' : Nat} (I : Inv X pins σ H s) (hH : H l = some (.lst xs))
    (e : s.heap.get? l = some { cls := .type "list", data := .seq its.toArray n }) (hf : f its.toArray = its'.toArray) (hv : Vals ys its') (hz : ys.length ≤ sizeLine) :
    Inv X pins σ (upd H l (.lst ys)) { s with heap := s.heap.update l (Obj.mapSeq f), toks := t' } := by
  have q := PySem.IsL.update e f
  rw [hf] at q
  refine I.write (x := l) (e := l) (by rw [hH]; exact trivial) (.inl rfl) (fun b' u hb hu => (Heap.get?_update_other s.heap (Obj.mapSeq f) (Ne.symm hb)).trans hu) ⟨_, q⟩ ?_
  exact ⟨hz, its', _, hv, q⟩
theorem Inv.lnew {its : List Value} {t' : Nat} (I : Inv X pins σ H s) (hv : Vals ys its) (hz : ys.length ≤ sizeLine) :
    Inv X pins σ (upd H s.heap.objs.size (.lst ys)) { s with heap := s.heap.push { cls := .type "list", data := .seq its.toArray }, toks := t' } :=
  I.laid (fun _ _ q => Heap.get?_push_of_some _ q) (Nat.le_refl _) ⟨hz, its, 0, hv, Heap.get?_push_size _ rfl⟩
theorem Inv.fresh (I : Inv X pins σ H s) : H s.heap.objs.size = none := I.hok.fresh (Nat.le_refl _)
theorem Inv.lstM (I : Inv X pins σ H s) (hH : H l = some (.lst xs)) : xs.length ≤ sizeLine ∧ ∃ (its : List Value) (n : Nat), Vals xs its ∧ xs.length = its.length ∧ s.heap.get? l = some { cls := .type "list", data := .seq its.toArray n } := by
  obtain ⟨z, its, n, r, e⟩ := I.hok l _ hH
  exact ⟨z, its, n, r, r.length, e⟩
end
section
variable {X : Cx}
def rAppend : V → List V → Hp → VK → Prop := fun x vs H Q => ∃ l xs y, x = .ref l ∧ vs = [y] ∧ H l = some (.lst xs) ∧ xs.length < sizeLine ∧ Q .non (upd H l (.lst (xs ++ [y])))
theorem mt_append : MtM X "list.append" rAppend := by
  intro pins s σ H x vs v us Q I rx rv h
  obtain ⟨l, xs, y, rfl, rfl, hH, hz, q⟩ := h
  cases rx
  obtain ⟨u, rfl, ru⟩ := rv.one
  obtain ⟨z, its, n, r, hl, e⟩ := I.lstM hH
  refine call_meets F.slot_list_append ⟨_, e, rfl⟩ F.entry_list_append (F.args_list_append_2 _ _) (PySem.list_append l its.toArray n u (by rw [List.size_toArray]; omega)) ⟨e, ?_⟩
  refine ⟨.non, _, I.lset (its' := its ++ [u]) hH e (by simp) (r.append (.cons ru .nil)) ?_, rfl, q⟩
  rw [List.length_append, List.length_singleton]
  omega
def rPop : V → List V → Hp → VK → Prop := fun x vs H Q => ∃ l xs y, x = .ref l ∧ vs = [] ∧ H l = some (.lst xs) ∧ xs[xs.length - 1]? = some y ∧ Q y (upd H l (.lst xs.dropLast))
theorem mt_pop : MtM X "list.pop" rPop := by
  intro pins s σ H x vs v us Q I rx rv h
  obtain ⟨l, xs, y, rfl, rfl, hH, hy, q⟩ := h
  cases rx
  have hus := rv.zero
  subst hus
  obtain ⟨z, its, n, r, hl, e⟩ := I.lstM hH
  obtain ⟨u, hu, ru⟩ := r.get hy
  have hy' : its.toArray[its.toArray.size - 1]? = some u := by
    show its.toArray[its.length - 1]? = some u
    rw [← Array.getElem?_toList, ← hl]
    exact hu
  refine call_meets F.slot_list_pop ⟨_, e, rfl⟩ F.entry_list_pop (F.args_list_pop_1 _) (MeetsSeq.list_pop_last l its.toArray n u hy' (by rw [List.size_toArray]; omega)) ⟨e, ?_⟩
  refine ⟨y, _, I.lset (its' := its.dropLast) hH e ?_ r.dropLast ?_, ru, q⟩
  · show its.toArray.eraseIdxIfInBounds (its.toArray.size - 1) = its.dropLast.toArray
    rw [List.size_toArray, List.eraseIdxIfInBounds_toArray, erase_last]
  · rw [List.length_dropLast]
    omega
def rPopAt : V → List V → Hp → VK → Prop := fun x vs H Q => ∃ l xs i k y, x = .ref l ∧ vs = [.int i] ∧ H l = some (.lst xs) ∧ -(2 ^ 63) ≤ i ∧ i < 2 ^ 63 ∧ seqIndex? i xs.length = some k ∧ xs[k]? = some y ∧ Q y (upd H l (.lst (xs.eraseIdx k)))
theorem mt_popAt : MtM X "list.pop" rPopAt := by
  intro pins s σ H x vs v us Q I rx rv h
  obtain ⟨l, xs, i, k, y, rfl, rfl, hH, h1, h2, hk, hy, q⟩ := h
  cases rx
  obtain ⟨u, rfl, ru⟩ := rv.one
  obtain ⟨t, rfl⟩ := ru
  obtain ⟨z, its, n, r, hl, e⟩ := I.lstM hH
  obtain ⟨w, hw, rw'⟩ := r.get hy
  refine call_meets F.slot_list_pop ⟨_, e, rfl⟩ F.entry_list_pop (F.args_list_pop_2 _ _)
    (MeetsSeq.list_pop_at l its.toArray n i t k w (fitsIndex_both h1 h2) (by rw [List.size_toArray, ← hl]; exact hk) (by rw [← Array.getElem?_toList]; exact hw) (by rw [List.size_toArray]; omega)) ⟨e, ?_⟩
  refine ⟨y, _, I.lset (its' := its.eraseIdx k) hH e ?_ (r.eraseIdx k) ?_, rw', q⟩
  · show its.toArray.eraseIdxIfInBounds k = (its.eraseIdx k).toArray
    rw [List.eraseIdxIfInBounds_toArray]
  · have := len_erase xs k
    omega
def rCat : R2 := fun x y H Q => ∃ l b xs zs, x = .ref l ∧ y = .ref b ∧ H l = some (.lst xs) ∧ H b = some (.lst zs) ∧ xs.length + zs.length ≤ sizeLine ∧ ∀ p, H p = none → Q (.ref p) (upd H p (.lst (xs ++ zs)))
theorem op_cat : OpR X (binaryOp .Add) rCat := by
  intro pins s σ H x y v u Q I rx ry h
  obtain ⟨l, b, xs, zs, rfl, rfl, hH, hB, hz, q⟩ := h
  cases rx
  cases ry
  obtain ⟨z, its, n, r, hl, e⟩ := I.lstM hH
  obtain ⟨z2, its2, n2, r2, hl2, e2⟩ := I.lstM hB
  refine PySem.P.add_list e e2 ?_ (by rw [List.size_toArray, List.size_toArray]; omega)
  have ea : its.toArray ++ its2.toArray = (its ++ its2).toArray := by simp
  rw [ea]
  exact ⟨.ref _, _, I.lnew (t' := s.toks) (r.append r2) (by rw [List.length_append]; omega), rfl, q _ I.fresh⟩
end
section
variable {prog : Program} {w : World} {A : Around} {E : Value → Shared → Prop} {s : Shared}
end
section
variable {X : Cx}
end
end L2
namespace Att
open PySem PySem.W PySem.Calls PyProof.Rows
theorem ints_of_wellAll {P : Params} {h : Heap} : ∀ (ns : List Int) (vs : List Value), WellAll P h vs (ns.map WData.int) → IntsAre vs ns := by
  intro ns
  induction ns with
  | nil =>
    intro vs w
    rw [List.map_nil] at w
    cases w
    exact .nil
  | cons n ns ih =>
    intro vs w
    rw [List.map_cons] at w
    cases w with
    | cons a b =>
      cases a
      exact .cons _ _ (ih _ b)
theorem script_of {l : OpenLaw} {n : Nat} (hn : l.most = some n) {P : Params} {h : Heap} {args : List WData} {vals : List Value}
    (hpre : l.row.toRowW.claim.pre args = true) (hwl : WellAll P h vals args) :
    ∃ a vs ns, vals = [Value.ref a] ∧ args = [WData.list (ns.map WData.int)] ∧ h.get? a = some { cls := .type "list", data := .seq vs.toArray } ∧ IntsAre vs ns ∧ ns.length ≤ n := by
  have hsh : WShape.hasAll [] args [.list .int] = true := (pre_splitW hpre).1
  have hc : l.pre.holds [] { args := args } = true := (pre_splitW hpre).2
  obtain ⟨d, r, rfl, h1, h2⟩ := hasAllW_cons hsh
  obtain rfl := hasAllW_nil h2
  obtain ⟨xs, rfl, h3⟩ := hasW_list h1
  obtain ⟨ns, rfl⟩ := items_int h3
  have hlen : ns.length ≤ n := by
    unfold OpenLaw.pre at hc
    have h4 : (WTm.not (.lt (.lit (.int (n : Int))) (.len (.arg 0)))).holds [] { args := [.list (ns.map .int)] } = true := by
      have h4 := (holds_andW hc).1
      rw [hn] at h4
      exact h4
    have h5 := condW_of h4 (w_not (w_lt w_lit (w_len_list (w_arg rfl))))
    rw [List.length_map] at h5
    refine Nat.le_of_not_lt fun q => ?_
    have q' : (n : Int) < ((ns.length : Nat) : Int) := by omega
    first
      | (rw [decide_eq_true q'] at h5; exact absurd h5 (by decide))
      | (simp at h5; omega)
  cases hwl with
  | cons w1 w2 =>
    cases w2
    cases w1 with
    | list ho hall => exact ⟨_, _, ns, rfl, rfl, ho, ints_of_wellAll ns _ hall, hlen⟩
theorem post_true (l : OpenLaw) (args : List WData) : l.row.toRowW.claim.post args (.bool true) args = true :=
  postW_of (r := l.row.toRowW) (X := (true == true))
    (show WShape.has [] (.bool true) .bool = true by first | rfl | decide | simp [WShape.has, WShape.arms, WShape.armsAll])
    (show (WTm.eq .res (.lit (.bool true))).value [] { args := args, res := some (.bool true), after := args } = some (.bool (true == true)) from w_eq_bool (w_res rfl) w_lit) rfl
theorem attach_call {l : OpenLaw} {n : Nat} {q : Program} {loose : List Str} {XP : (Str → Option Value) → Heap → Prop} {YP : World → Heap → Prop} {d : DefRec}
    (hn : l.most = some n) (hdf : d.params.defaults = [])
    (call : ∀ (w : World) (s₀ s₁ : Shared) (mg mb : Str → Option Value) (fa : Addr) (o : Obj) (pm cd doc : Value) (a : Addr) (vs : List Value) (ns : List Int),
      Ground q loose [] XP w s₀ mg mb s₁.heap → YP w s₁.heap →
      s₁.heap.get? fa = some o → o.data = .func (docDef d.name d.params d.body d.scope pm cd doc) → s₁.heap.CodeRec cd d.name → mg d.name = some (.ref fa) →
      s₁.heap.get? a = some { cls := .type "list", data := .seq vs.toArray } → IntsAre vs ns → ns.length ≤ n → s₁.gens = #[] →
      codeAny (model l.prog w) callerA (.call (.ref fa) ⟨[.ref a], []⟩) (fun r s' => r = .ok (.ret (.bool true)) ∧ OldK s₁.heap s'.heap ∧ s'.os = s₁.os ∧ AllBare s'.gens) s₁) :
    WalkO q loose XP YP l.row.toRowW d [] (fun f vs => PySem.call f vs) := by
  intro w s₀ s₁ mg mb G Y fa o pm cd doc dV kV ho hd hcd hD hmg hg args vals as hpre hlay hrd hwl hlo
  obtain rfl : dV = .none := Dflts.none hD hdf
  obtain rfl : kV = .none := Dflts.noKw hD
  obtain ⟨a, vs, ns, rfl, rfl, hobj, hints, hlen⟩ := script_of hn hpre hwl
  refine enter_call (codeAny_mono (call w s₀ s₁ mg mb fa o pm cd doc a vs ns G Y ho (fd_plain hd) hcd hmg hobj hints hlen hg) fun r s' hq => ?_)
  obtain ⟨rfl, h2, h3, h4⟩ := hq
  exact ⟨.inl ⟨.bool true, .bool true, [], rfl, fun _ => rfl, .bool true, post_true l _, fun _ => ⟨List.Pairwise.nil, fun _ hm => (nomatch hm)⟩⟩, h2, h3, h4⟩
section
variable {prog : Program} {w : World} {A : Around} {E : Value → Shared → Prop} {s : Shared} {K : Frag}
end
end Att
namespace L2
open PySem PySem.Spec PyProof.Rows
theorem vals_ints : ∀ {vs : List Value} {ns : List Int}, IntsAre vs ns → Vals (ns.map V.int) vs
  | _, _, .nil => .nil
  | _, _, .cons n t h => .cons ⟨t, rfl⟩ (vals_ints h)
def Only (H : Hp) : Prop := ∀ b, H b = none ∨ ∃ o xs, H b = some (.frz o (.lst xs))
theorem law_call {P : Program} {w : World} {K : PySem.W.Frag} {mg mb : Str → Option Value} {CX : CXT} {k : Nat} {fa a : Addr} {fd : FuncData} {x : Str} {sp : Sp} {s₁ : Shared} {vs : List Value} {ns : List Int}
    (KX : K.In s₁.heap) (hns : s₁.heap.Ns mainGlobals mg) (hb : s₁.heap.Ns builtinsNs mb) (hbb : ∀ x : Str, x ≠ "__name__" → mb x = bootBuiltins x) (hlim : s₁.heap.NoLimit) (hg : s₁.gens = #[])
    (ha : s₁.heap.get? a = some { cls := .type "list", data := .seq vs.toArray }) (hi : IntsAre vs ns) (hl : ns.length ≤ sizeLine) (hr : Room k callerA)
    (F : ∀ base : Heap, K.In base → base.Ns mainGlobals mg → FnOk P w K mg base CX k fa fd [x] sp) (hbind : ∀ (s : Shared) (u : Value), BindsTo s fd ⟨[u], []⟩ [(x, u)])
    (hsp : ∀ H : Hp, Only H → SqL K H a (ns.map V.int) → sp [.ref a] H (fun v _ => v = .bl true) fun _ _ _ => False)
    (hCX : ∀ H e s', CX [] H s₁ (fun _ _ _ => False) e s' → False) :
    codeAny (model P w) callerA (.call (.ref fa) ⟨[.ref a], []⟩) (fun r s' => r = .ok (.ret (.bool true)) ∧ OldK s₁.heap s'.heap ∧ s'.os = s₁.os ∧ AllBare s'.gens) s₁ := by
  have rv := vals_ints hi
  have lenV := hi.length
  have core : ∀ H : Hp, Only H → SqL K H a (ns.map V.int) → HOk P w H s₁.heap → (∀ b, H b ≠ none → b = a) → (H a ≠ none → K.lookup a = none) →
      codeAny (model P w) callerA (.call (.ref fa) ⟨[.ref a], []⟩) (fun r s' => r = .ok (.ret (.bool true)) ∧ OldK s₁.heap s'.heap ∧ s'.os = s₁.os ∧ AllBare s'.gens) s₁ := by
    intro H hO hS hok hA hK
    have base_of : ∀ {b : Addr} {o : Obj}, s₁.heap.get? b = some o → H b = none → (hidT s₁.heap H).get? b = some o := fun e n => hidT_get e n
    have noA : ∀ {b : Addr} {o : Obj} {es : Array DictEntry} {ep : Nat}, s₁.heap.get? b = some o → o.data = .dict es ep → H b = none := fun {b o es ep} e d => by
      cases q : H b with
      | none => rfl
      | some u =>
        have e' : b = a := hA b (by rw [q]; simp)
        subst e'
        rw [ha] at e; cases e
        have d' : Data.seq vs.toArray _ = Data.dict es ep := d
        cases d'
    have nsK : ∀ {b : Addr} {m : Str → Option Value}, s₁.heap.Ns b m → (hidT s₁.heap H).Ns b m := fun {b m} ⟨o, es, ep, e, d, r⟩ => ⟨o, es, ep, base_of e (noA e d), d, r⟩
    have hKb : K.In (hidT s₁.heap H) := fun b o e => base_of (KX b o e) (by
      cases q : H b with
      | none => rfl
      | some u =>
        have e' : b = a := hA b (by rw [q]; simp)
        subst e'
        rw [hK (by rw [q]; simp)] at e; cases e)
    have hM : Mod K mg (hidT s₁.heap H) := ⟨hKb, nsK hns, ⟨mb, nsK hb, hbb⟩, let ⟨mc, h1, h2⟩ := hlim; ⟨mc, nsK h1, h2⟩⟩
    have e0 : Env0 P w K mg (hidT s₁.heap H) callerA [] s₁ H := ⟨rfl, hM, fun b o e => of_hidT e, Nat.le_of_eq (hidT_size _ _), trivial, fun b hb => absurd (show b ∈ ([] : List Addr) from hb) (by simp), hok, .of_eq hg⟩
    refine codeAny_mono ((F _ hKb (nsK hns)).run callerA [] s₁ H ⟨[.ref a], []⟩ [.ref a] [.ref a] _ _ hr e0 (hbind s₁ (.ref a)) (.cons rfl .nil) (hsp H hO hS)) fun r s' h => ?_
    cases r with
    | error e => exact (hCX H e s' h).elim
    | ok fl =>
      cases fl with
      | next => exact False.elim h
      | brk => exact False.elim h
      | cont => exact False.elim h
      | ret u =>
        obtain ⟨v, H', os, bare, un, hok', r', q⟩ := h
        have q' : v = .bl true := q
        subst q'
        obtain rfl : u = Value.bool true := r'
        refine ⟨rfl, OldK.of_keep fun b o e => ?_, os, bare⟩
        cases q : H b with
        | none => exact un.keep b o e q (by intro z; exact absurd (show b ∈ ([] : List Addr) from z) (by simp)) (by simp)
        | some u =>
          rcases hO b with z | ⟨ob, xs, z⟩
          · rw [q] at z; cases z
          · have z2 := un.frzs b ob _ z
            obtain ⟨e1, _⟩ := hok b _ z
            obtain ⟨e2, _⟩ := hok' b _ z2
            rw [e] at e1; cases e1
            exact e2
  cases hk : K.lookup a with
  | some o =>
    have e := KX a o hk
    rw [ha] at e
    cases e
    refine core (fun _ => none) (fun _ => .inl rfl) (.inr ⟨_, vs.toArray, _, hk, rfl, rfl, rfl, by rw [List.size_toArray, lenV]; exact hl, by simpa using rv⟩) (fun b u z => by have z' : (none : Option HO) = some u := z; cases z') (fun b z => absurd rfl z) fun z => absurd rfl z
  | none =>
    refine core (fun b => if b = a then some (.frz { cls := .type "list", data := .seq vs.toArray } (.lst (ns.map V.int))) else none) (fun b => ?_) (.inl (.inr ⟨{ cls := .type "list", data := .seq vs.toArray }, if_pos rfl⟩)) (fun b u z => ?_) (fun b z => ?_) fun _ => hk
    · by_cases hb : b = a
      · exact .inr ⟨_, _, if_pos hb⟩
      · exact .inl (if_neg hb)
    · by_cases hb : b = a
      · have z' := (if_pos hb).symm.trans z
        cases z'
        subst hb
        exact ⟨ha, by rw [List.length_map]; exact hl, vs, _, rv, ha⟩
      · have z' := (if_neg hb).symm.trans z
        cases z'
    · by_cases hb : b = a
      · exact hb
      · exact absurd (if_neg hb) z
end L2
namespace L2
open PySem PySem.Spec PyProof.Rows
theorem walk_of {l : PySem.W.OpenLaw} {n k : Nat} {q : Program} {loose : List Str} {XP : (Str → Option Value) → Heap → Prop} {YP : World → Heap → Prop} {d : DefRec} {K : Params → PySem.W.Frag} {CX : World → CXT} {sp : World → Sp} {x : Str}
    (hn : l.most = some n) (hn2 : n ≤ sizeLine) (hdf : d.params.defaults = []) (hr : Room k callerA)
    (hY : ∀ (w : World) (h : Heap), YP w h → (K w.params).In h)
    (F : ∀ (w : World) (mg : Str → Option Value) (fa : Addr) (h : Heap), (K w.params).In h → h.Ns mainGlobals mg → mg d.name = some (.ref fa) →
      ∃ fd : FuncData, (∀ (s : Shared) (u : Value), BindsTo s fd ⟨[u], []⟩ [(x, u)]) ∧
        ∀ base : Heap, (K w.params).In base → base.Ns mainGlobals mg → FnOk l.prog w (K w.params) mg base (CX w) k fa fd [x] (sp w))
    (hsp : ∀ (w : World) (H : Hp) (a : Addr) (ns : List Int), ns.length ≤ n → Only H → SqL (K w.params) H a (ns.map V.int) → sp w [.ref a] H (fun v _ => v = .bl true) fun _ _ _ => False)
    (hCX : ∀ (w : World) (H : Hp) (s : Shared) (e : Value) (s' : Shared), CX w [] H s (fun _ _ _ => False) e s' → False) :
    PySem.W.WalkO q loose XP YP l.row.toRowW d [] (fun f vs => PySem.call f vs) := by
  refine Att.attach_call hn hdf fun w s₀ s₁ mg mb fa o pm cd doc a vs ns G Y ho hd hcd hmg hobj hints hlen hg => ?_
  have KX := hY w _ Y
  obtain ⟨fd, hb, hF⟩ := F w mg fa _ KX G.T.g hmg
  exact law_call KX G.T.g G.T.b G.T.builtins G.T.nolimit hg hobj hints (Nat.le_trans hlen hn2) hr hF hb (fun H hO hS => hsp w H a ns hlen hO hS) fun H e s' => hCX w H s₁ e s'
end L2
namespace L2
open PySem PySem.Spec PyProof.Rows
def inClass (s : Stmt) (j : Nat) : Stmt := match s with
  | .ClassDef _ _ _ body _ _ _ _ _ _ _ => body.getD j (.Pass ⟨0, 0, 0, 0⟩)
  | _ => .Pass ⟨0, 0, 0, 0⟩
def defArgs (s : Stmt) : Arguments := match s with
  | .FunctionDef _ a _ _ _ _ _ _ _ _ => a
  | _ => { posonlyargs := [], args := [], vararg := none, kwonlyargs := [], kw_defaults := [], kwarg := none, defaults := [] }
def defBody (s : Stmt) : List Stmt := match s with
  | .FunctionDef _ _ b _ _ _ _ _ _ _ => b
  | _ => []
def defScope (s : Stmt) : Scope := match s with
  | .FunctionDef _ _ _ _ _ _ sc _ _ _ => sc
  | _ => { kind := .function, names := [], isGenerator := false, isCoroutine := false }
abbrev CX0 : CXT := fun _ _ _ _ _ _ => False
abbrev E0 : XK := fun _ _ _ => False
theorem pass0 {X : Cx} : Passes CX0 X E0 := fun _ _ _ _ _ _ _ h => h.elim
structure Fun (K : PySem.W.Frag) (x qual : Str) (st : Stmt) (f : Addr) (fd : FuncData) : Prop where
  ex : ∃ (oc : Value) (od : Option Addr) (kV doc pm : Value) (an : Option Addr) (cdv ct : Value) (osl : Array (Option Value)),
    fd = PySem.W.fnOf x qual (defArgs st) (defBody st) (defScope st) .none kV doc pm an cdv ct ∧ K.lookup f = some ⟨oc, od, .func fd, osl⟩ ∧ PySem.W.codeIn K cdv qual = true
  kp : PySem.W.keepIn K (.ref f) = true
section
variable {P : Program} {w : World} {K : PySem.W.Frag} {mg : Str → Option Value} {base : Heap}
theorem Fun.ok {x qual : Str} {st : Stmt} {f : Addr} {fd : FuncData} {N ps : List Str} {k : Nat} {sp : Sp} (F : Fun K x qual st f fd) (S : FnScope N ps (defScope st)) (len : ∀ vs H Q E, sp vs H Q E → vs.length = ps.length)
    (hbody : ∀ (cdv : Value) (A : Around) (outer : List Env) (s : Shared) (H : Hp) (vs : List V) (Q : VK) (E : XK), Room k (A.deeper (envOfC qual (defScope st) s.heap.objs.size f cdv)) → sp vs H Q E →
      ∃ t, PSs (cxOf CX0 P w K mg base N qual (defScope st) f cdv A outer s H E).nox (defBody st) t ∧ t { nx := fun _ H' => Q .non H', rt := Q } (start N vs) H) : FnOk P w K mg base CX0 (k + 1) f fd ps sp := by
  obtain ⟨oc, od, kV, doc, pm, an, cdv, ct, osl, rfl, lk, hcd⟩ := F.ex
  refine fn_of lk hcd S len fun A outer s H vs Q E hr hsp => ?_
  obtain ⟨t, h, q⟩ := hbody cdv A outer s H vs Q E hr hsp
  exact ⟨t, h.nox, q⟩
theorem Fun.binds {x qual : Str} {st : Stmt} {f : Addr} {fd : FuncData} {ps : List Str} (F : Fun K x qual st f fd)
    (h : ∀ (kV doc pm : Value) (an : Option Addr) (cdv ct : Value) (us : List Value), us.length = ps.length → bindArgs (PySem.W.fnOf x qual (defArgs st) (defBody st) (defScope st) .none kV doc pm an cdv ct) ⟨us, []⟩ = pure (ps.zip us)) : Binds K fd ps [] := by
  obtain ⟨oc, od, kV, doc, pm, an, cdv, ct, osl, rfl, lk, hcd⟩ := F.ex
  exact .all (h kV doc pm an cdv ct)
theorem fun_mk {x qual : Str} {st : Stmt} {f : Addr} {oc : Value} {od an : Option Addr} {osl : Array (Option Value)} {kV doc pm cdv ct : Value} (l : K.lookup f = some ⟨oc, od, .func (PySem.W.fnOf x qual (defArgs st) (defBody st) (defScope st) .none kV doc pm an cdv ct), osl⟩)
    (c : PySem.W.codeIn K cdv qual = true) (k : PySem.W.keepIn K (.ref f) = true) : Fun K x qual st f (PySem.W.fnOf x qual (defArgs st) (defBody st) (defScope st) .none kV doc pm an cdv ct) := ⟨⟨oc, od, kV, doc, pm, an, cdv, ct, osl, rfl, l, c⟩, k⟩
end
theorem hu_of {A : Around} {k : Nat} (hr : Room k A) : A.units + 1 < cLine := Nat.lt_of_le_of_lt (Nat.add_le_add_left (by decide : 1 ≤ 64) _) hr.units
section
variable {X : Cx}
theorem pv (i : Nat) {x : Str} {pos : Pos} (hN : X.N[i]? = some x := by rfl) (hv : Vis X.env.scope x := by first | exact Or.inl rfl | exact Or.inr (Or.inl rfl) | exact Or.inr (Or.inr rfl)) (hd : (x == ("__debug__" : Str)) = false := by decide)
    (hcd : (x == ("__classdict__" : Str)) = false := by decide) : PE X (.Name x pos) (tVar i) := pe_var hN hv hd hcd
end
theorem iteF {A B : Prop} (h : B) : if false = true then A else B := by
  rw [if_neg Bool.false_ne_true]
  exact h
theorem iteT {A B : Prop} (h : A) : if true = true then A else B := by
  rw [if_pos rfl]
  exact h
theorem ite2 {c A B : Prop} [Decidable c] (h1 : c → A) (h2 : ¬ c → B) : if c then A else B := by
  by_cases h : c
  · rw [if_pos h]
    exact h1 h
  · rw [if_neg h]
    exact h2 h
theorem iteNS {c A B : Prop} [Decidable c] (hc : c) (h : B) : if (!decide c) = true then A else B := by
  rw [decide_eq_true hc]
  exact iteF h
def Same (H H' : Hp) : Prop := ∀ b o, H b = some o → H' b = some o
theorem Same.refl (H : Hp) : Same H H := fun _ _ h => h
theorem Same.trans {H H1 H2 : Hp} (a : Same H H1) (b : Same H1 H2) : Same H H2 := fun c o h => b c o (a c o h)
theorem Same.free {H H' : Hp} (e : Same H H') {l : Addr} (h : H' l = Option.none) : H l = Option.none := by
  cases q : H l with
  | none => rfl
  | some o =>
    rw [e l o q] at h
    cases h
theorem Same.seq {K : PySem.W.Frag} {H H' : Hp} {a : Addr} {xs : List V} (e : Same H H') (h : SqL K H a xs) : SqL K H' a xs := by
  rcases h with (h | ⟨o, h⟩) | h
  · exact .inl (.inl (e _ _ h))
  · exact .inl (.inr ⟨o, e _ _ h⟩)
  · exact .inr h
end L2
set_option maxRecDepth 100000
namespace L2
open PySem PySem.Spec PyProof.Rows
theorem Inv.turnedN {X : Cx} {pins : List (Addr × Obj)} {σ : St} {H : Hp} {s : Shared} {h' : Heap} {t' : Nat} {ch : List Addr} (I : Inv X pins σ H s) (hf : ∀ b ∈ ch, FpOk X pins H b)
    (k : ∀ b o, b ∉ ch → s.heap.get? b = some o → h'.get? b = some o) : Inv X pins σ H { s with heap := h', toks := t' } := by
  refine I.step (g' := s.gens) (d' := s.drawn) (ch := ch) (fun b hb => ⟨(hf b hb).2.2.2.1, (hf b hb).2.1, (hf b hb).2.2.2.2.1, (hf b hb).2.2.2.2.2⟩) (fun b o _ _ hc e _ => k b o hc e) (fun b o _ _ hc e _ => ⟨o.slots, k b o hc e⟩) (fun _ _ _ _ n => n)
    (fun b o hc e => ⟨o, k b o hc e⟩) (fun _ _ e => e) (fun _ _ _ e => e) (fun b ps e => ⟨#[], by rw [e]; simp⟩) (fun m hm => ?_) (fun b u e => ?_) I.bare
  · obtain ⟨o, es, ep, ho, r⟩ := hm
    exact ⟨o, es, ep, k _ o (fun z => (hf _ z).2.1 rfl) ho, r⟩
  · refine (I.hok b u e).stay (fun c v hc q => k c v (fun z => ?_) q) (fun _ q => q) fun _ _ q => q
    have n := (hf c z).1
    rcases hc with w | w
    · rw [w, e] at n; cases n
    · rw [w] at n; cases n
theorem Inv.track {X : Cx} {pins : List (Addr × Obj)} {σ : St} {H : Hp} {s : Shared} {T : Addr} {o : HO} (I : Inv X pins σ H s) (hf : FpOk X pins H T) (hs : X.s₀.heap.objs.size ≤ T) (new : ObjOk X.prog X.w (upd H T o) s.heap T o) : Inv X pins σ (upd H T o) s := by
  have hn := hf.1
  have := I.step (h' := s.heap) (H' := upd H T o) (g' := s.gens) (d' := s.drawn) (t' := s.toks) (ch := [T]) (fun b hb => by
      have e : b = T := by simpa using hb
      subst e
      exact ⟨.inr hs, hf.2.1, hf.2.2.2.2.1, hf.2.2.2.2.2⟩) (fun b o _ _ _ e _ => e) (fun b o _ _ _ e _ => ⟨o.slots, e⟩) (fun b o hb _ n => by rw [upd_ne (by simpa using hb)]; exact n)
    (fun b o _ e => ⟨o, e⟩) (fun b xs e => by rw [upd_ne (ne_of_none e hn)]; exact e) (fun b ob xs e => by rw [upd_ne (ne_of_none e hn)]; exact e) (fun b ps e => ⟨#[], by rw [upd_ne (ne_of_none e hn), e]; simp⟩) (fun m hm => hm)
    (fun b u e => by
      by_cases hb : b = T
      · subst hb; rw [upd_same] at e; cases e; exact new
      · rw [upd_ne hb] at e
        exact (I.hok b u e).stay (fun c v _ q => q) (fun c q => by rw [upd_ne (ne_of_none q hn)]; exact q) fun c xs q => by rw [upd_ne (ne_of_none q hn)]; exact q) I.bare
  exact this
end L2
namespace L2
open PySem PySem.Spec PyProof.Rows
abbrev noX : Value → Shared → Prop := fun _ _ => False
section
variable {prog : Program} {w : World} {A : Around} {R : Result → Shared → Prop} {s : Shared}
theorem compLoop_gen {elt target iter : Expr} {ifs : List Expr} {scope : Scope} {pos : Pos} {it acc : Value} {env : Env} (I : Nat → Shared → Prop)
    (turn : ∀ n s, I n s → wpAny (model prog w) A (pyNext it) (fun r s₁ => match r with
      | none => R (.ok .next) s₁
      | some v => wpAny (model prog w) A (letOwnedTupleGo target it v) (fun _ s₂ => wpAny (model prog w) A (assign target env v) (fun _ s₃ =>
          wpAny (model prog w) A (forIn ifs true fun c r => if r = true then do let ok ← isTrue c env (eval c env); pure (ForInStep.yield ok) else pure (ForInStep.yield r)) (fun ok s₄ =>
            if ok = true then wpAny (model prog w) A (eval elt env) (fun x s₅ => wpAny (model prog w) A (call (.builtin "list.append") [acc, x]) (fun _ s₆ => ∃ m, m < n ∧ I m s₆) noX s₅) noX s₄
            else ∃ m, m < n ∧ I m s₄) noX s₃) noX s₂) noX s₁) noX s)
    (n : Nat) (h : I n s) : codeAny (model prog w) A (.compLoop (.ListComp elt [⟨target, iter, ifs, 0⟩] scope pos) 0 it acc env) R s := by
  refine codeAny_loop rfl I (fun n s hI => ?_) n h
  show wpAny _ A ((compTurn (.ListComp elt [⟨target, iter, ifs, 0⟩] scope pos) 0 it acc env).onRaise (fun x => do noteFrame x env; theTreesLotGoes x)) _ _ s
  refine wpAny_noted ?_
  rw [compTurn_list]
  refine wpAny_bind (wpAny_standAt (wpAny_bind (wpAny_mono (turn n s hI) (fun r s₁ h₁ => ?_) fun _ _ h' => h'.elim)))
  cases r with
  | none => exact wpAny_pure h₁
  | some v =>
    refine wpAny_bind (wpAny_mono h₁ (fun _ s₂ h₂ => ?_) fun _ _ h' => h'.elim)
    refine wpAny_bind (wpAny_mono h₂ (fun _ s₃ h₃ => wpAny_bind (wpAny_mono h₃ (fun ok s₄ h₄ => ?_) fun _ _ h' => h'.elim)) fun _ _ h' => h'.elim)
    cases ok with
    | false => exact wpAny_pure ⟨rfl, h₄⟩
    | true =>
      exact wpAny_bind (wpAny_bind (wpAny_mono h₄ (fun x s₅ h₅ => wpAny_bind (wpAny_mono h₅ (fun _ s₆ h₆ => wpAny_pure (wpAny_pure ⟨rfl, h₆⟩)) fun _ _ h' => h'.elim)) fun _ _ h' => h'.elim))
end
theorem newEnv_comp {M : Model} {A : Around} {E : Value → Shared → Prop} {s : Shared} {scope : Scope} {globals : Addr} {cl : List (Str × Addr)} {qual : Str} {env : Env} {Q : Env → Shared → Prop}
    (h : Q (newEnv scope s.heap.objs.size globals (cellsFrom (s.heap.objs.size + 1) scope.names cl) qual none .none (some env) builtinsNs) { s with heap := pushCells (s.heap.push { cls := .type "dict", data := .dict #[] }) scope.names }) :
    wpAny M A (newFunctionEnv scope globals cl [] qual none .none (some env)) Q E s := by
  simp only [newFunctionEnv, Option.isSome_some, if_true]
  refine wpAny_bind (wpAny_alloc ?_)
  refine wpAny_bind (wpAny_layCells _ (fun name kind cells => by cases hkc : kind == NameKind.cell <;> simp [hkc]) _ _ _ _ ?_)
  rw [show ({ s with heap := s.heap.push { cls := .type "dict", data := .dict #[] } } : Shared).heap.objs.size = s.heap.objs.size + 1 from Heap.size_push ..]
  refine wpAny_bind ?_
  rw [List.forIn_nil]
  exact wpAny_pure (wpAny_pure h)
theorem closure_go {env : Env} (f : Str × NameKind → List (Str × Addr) → Sem (ForInStep (List (Str × Addr))))
    (hf : ∀ name kind cs, f (name, kind) cs = if kind == .free then (do let a ← cellOf env name; pure (.yield ((name, a) :: cs))) else pure (.yield cs)) :
    ∀ (names : List (Str × NameKind)) (cs : List (Str × Addr)), (∀ x ∈ names, x.2 = .free → ∃ c, env.cells.lookup x.1 = some c) →
      ∃ cl, forIn names cs f = pure cl ∧ (∀ p ∈ cl, p ∈ cs ∨ env.cells.lookup p.1 = some p.2) ∧ (∀ p ∈ cs, p ∈ cl) ∧ ∀ x ∈ names, x.2 = .free → ∃ c, (x.1, c) ∈ cl
  | [], cs, _ => ⟨cs, by rw [List.forIn_nil], fun _ h => .inl h, fun _ h => h, fun _ h => nomatch h⟩
  | (name, kind) :: r, cs, hc => by
    have hr : ∀ x ∈ r, x.2 = .free → ∃ c, env.cells.lookup x.1 = some c := fun x hx => hc x (List.mem_cons_of_mem _ hx)
    by_cases hk : kind = .free
    · subst hk
      obtain ⟨c, e⟩ := hc (name, .free) List.mem_cons_self rfl
      obtain ⟨cl, h1, h2, h3, h4⟩ := closure_go f hf r ((name, c) :: cs) hr
      refine ⟨cl, ?_, fun p hp => ?_, fun p hp => h3 p (List.mem_cons_of_mem _ hp), fun x hx hf' => ?_⟩
      · rw [List.forIn_cons, hf]
        show ((if (NameKind.free == NameKind.free) = true then _ else _) >>= _) = _
        rw [if_pos (by decide)]
        unfold cellOf
        rw [e]
        exact h1
      · rcases h2 p hp with z | z
        · rcases List.mem_cons.mp z with z | z
          · subst z; exact .inr e
          · exact .inl z
        · exact .inr z
      · rcases List.mem_cons.mp hx with z | z
        · subst z; exact ⟨c, h3 _ List.mem_cons_self⟩
        · exact h4 x z hf'
    · obtain ⟨cl, h1, h2, h3, h4⟩ := closure_go f hf r cs hr
      refine ⟨cl, ?_, h2, h3, fun x hx hf' => ?_⟩
      · rw [List.forIn_cons, hf, if_neg (by simpa using hk)]
        exact h1
      · rcases List.mem_cons.mp hx with z | z
        · subst z; exact absurd hf' hk
        · exact h4 x z hf'
theorem closure_ok {env : Env} {scope : Scope} (hc : ∀ x ∈ scope.names, x.2 = .free → ∃ c, env.cells.lookup x.1 = some c) :
    ∃ cl, closureFor scope env = pure cl ∧ (∀ p ∈ cl, env.cells.lookup p.1 = some p.2) ∧ ∀ x ∈ scope.names, x.2 = .free → ∃ c, (x.1, c) ∈ cl := by
  obtain ⟨cl, h1, h2, _, h4⟩ := closure_go (env := env) (fun x cs => if x.2 == .free then (do let a ← cellOf env x.1; pure (.yield ((x.1, a) :: cs))) else pure (.yield cs)) (fun _ _ _ => rfl) scope.names [] hc
  refine ⟨cl, ?_, fun p hp => (h2 p hp).elim (fun z => nomatch z) id, h4⟩
  unfold closureFor
  rw [← h1]
  show (forIn scope.names [] _ >>= fun cs => pure cs) = _
  have e : ∀ (m : Sem (List (Str × Addr))), (m >>= fun cs => pure cs) = m := fun m => bind_pure m
  first
    | exact e _
    | (rw [e]; congr 1; funext x cs; obtain ⟨n, k⟩ := x; cases hk : k == NameKind.free <;> simp [hk])
theorem lookup_of_mem {α : Type} : ∀ {l : List (Str × α)} {x : Str} {c : α}, (x, c) ∈ l → ∃ d, l.lookup x = some d
  | (k, v) :: r, x, c, h => by
    rw [List.lookup_cons]
    cases hb : x == k with
    | true => exact ⟨v, rfl⟩
    | false =>
      rcases List.mem_cons.mp h with e | h
      · cases e; simp at hb
      · exact lookup_of_mem h
theorem cellsFrom_mem : ∀ (names : List (Str × NameKind)) (n : Nat) (acc : List (Str × Addr)) (p : Str × Addr), p ∈ cellsFrom n names acc → p ∈ acc ∨ (n ≤ p.2 ∧ (p.1, NameKind.cell) ∈ names)
  | [], _, _, _, h => .inl h
  | (y, k) :: r, n, acc, p, h => by
    unfold cellsFrom at h
    split at h
    · rename_i hk
      have ek : k = .cell := by simpa using hk
      rcases cellsFrom_mem r (n + 1) _ p h with z | ⟨z1, z2⟩
      · rcases List.mem_cons.mp z with z | z
        · subst z; subst ek; exact .inr ⟨Nat.le_refl _, List.mem_cons_self⟩
        · exact .inl z
      · exact .inr ⟨by omega, List.mem_cons_of_mem _ z2⟩
    · rcases cellsFrom_mem r n acc p h with z | ⟨z1, z2⟩
      · exact .inl z
      · exact .inr ⟨z1, List.mem_cons_of_mem _ z2⟩
theorem cellsFrom_inj : ∀ (names : List (Str × NameKind)) (n : Nat) (acc : List (Str × Addr)), (∀ p ∈ acc, p.2 < n) → (∀ x y c, (x, c) ∈ acc → (y, c) ∈ acc → x = y) →
    ∀ x y c, (x, c) ∈ cellsFrom n names acc → (y, c) ∈ cellsFrom n names acc → x = y
  | [], _, _, _, h => h
  | (z, k) :: r, n, acc, hlt, h => by
    unfold cellsFrom
    split
    · refine cellsFrom_inj r (n + 1) _ (fun p hp => ?_) (fun x y c h1 h2 => ?_)
      · rcases List.mem_cons.mp hp with e | hp
        · subst e; exact Nat.lt_succ_self _
        · exact Nat.lt_succ_of_lt (hlt p hp)
      · rcases List.mem_cons.mp h1 with e1 | h1 <;> rcases List.mem_cons.mp h2 with e2 | h2
        · cases e1; cases e2; rfl
        · cases e1; exact absurd (hlt _ h2) (Nat.lt_irrefl _)
        · cases e2; exact absurd (hlt _ h1) (Nat.lt_irrefl _)
        · exact h x y c h1 h2
    · exact cellsFrom_inj r n acc hlt h
theorem cellsFrom_old : ∀ (names : List (Str × NameKind)) (n : Nat) (acc : List (Str × Addr)) {x : Str}, (∀ y ∈ names, y.2 = .cell → y.1 ≠ x) → (cellsFrom n names acc).lookup x = acc.lookup x
  | [], _, _, _, _ => rfl
  | (z, k) :: r, n, acc, x, h => by
    unfold cellsFrom
    have hr : ∀ y ∈ r, y.2 = .cell → y.1 ≠ x := fun y hy => h y (List.mem_cons_of_mem _ hy)
    split
    · rename_i hk
      rw [cellsFrom_old r (n + 1) _ hr, List.lookup_cons]
      have : (x == z) = false := by
        have := h (z, k) List.mem_cons_self (by simpa using hk)
        simpa using Ne.symm this
      rw [this]
    · exact cellsFrom_old r n acc hr
theorem pushCells_cells : ∀ (names : List (Str × NameKind)) (h : Heap) (acc : List (Str × Addr)), (∀ p ∈ acc, ∃ v, h.IsCell p.2 v) → ∀ p ∈ cellsFrom h.objs.size names acc, ∃ v, (pushCells h names).IsCell p.2 v
  | [], _, _, hc => hc
  | (z, k) :: r, h, acc, hc => by
    unfold cellsFrom pushCells
    split
    · have := pushCells_cells r (h.push { cls := .type "cell", data := .cell none }) ((z, h.objs.size) :: acc) (fun p hp => by
        rcases List.mem_cons.mp hp with e | hp
        · subst e; exact ⟨none, _, Heap.get?_push_size _ rfl, rfl⟩
        · obtain ⟨v, q⟩ := hc p hp
          exact ⟨v, q.keeps fun b o e => Heap.get?_push_of_some _ e⟩)
      rwa [Heap.size_push] at this
    · exact pushCells_cells r h acc hc
def cxComp (X : Cx) (scope : Scope) (N' : List Str) (cells : List (Str × Addr)) (C : Addr) (s : Shared) (H : Hp) (fp : List Addr) : Cx where
  prog := X.prog
  w := X.w
  K := X.K
  mg := X.mg
  base := X.base
  A := X.A
  N := N'
  s₀ := s
  H₀ := H
  env := compEnvC scope cells C X.env
  outer := X.stack
  stack := X.stack
  ex := fp
  fn := fun x => decide (scope.names.lookup x = some .cell)
  calm := X.calm
  pn := []
  xe := fun _ _ => False
def isFreeIn (scope : Scope) (x : Str) : Bool := scope.names.any fun y => y.1 == x && y.2 == .free
def isCellIn (scope : Scope) (x : Str) : Bool := scope.names.any fun y => y.1 == x && y.2 == .cell
def compCheck (sc : Scope) (N : List Str) (scope : Scope) (nT : Nat) (js : List Nat) (N' : List Str) : Bool :=
  scope.kind == .function && decide (N'.length = nT + js.length) &&
  scope.names.all (fun x => (x.2 != .local || scope.names.lookup x.1 == some .local) && (x.2 != .free || ((sc.names.lookup x.1 == some .cell || sc.names.lookup x.1 == some .free) && scope.names.lookup x.1 == some .free))) &&
  (js.zipIdx.all fun (j, i) => match N'[nT + i]?, N[j]? with
    | some x, some y => x == y && isFreeIn scope x && !(isCellIn scope x)
    | _, _ => false)
structure CompScope (X : Cx) (scope : Scope) (nT : Nat) (js : List Nat) (N' : List Str) : Prop where
  kind : scope.kind = .function
  len : N'.length = nT + js.length
  loc : ∀ x ∈ scope.names, x.2 = .local → scope.names.lookup x.1 = some .local
  free : ∀ x ∈ scope.names, x.2 = .free → (X.env.kindOf x.1 = some .cell ∨ X.env.kindOf x.1 = some .free)
  frl : ∀ x ∈ scope.names, x.2 = .free → scope.names.lookup x.1 = some .free
  cap : ∀ (i j : Nat), js[i]? = some j → ∃ x, N'[nT + i]? = some x ∧ X.N[j]? = some x ∧ (x, NameKind.free) ∈ scope.names ∧ ∀ y ∈ scope.names, y.2 = .cell → y.1 ≠ x
theorem compScope_of {X : Cx} {sc : Scope} {N : List Str} {scope : Scope} {nT : Nat} {js : List Nat} {N' : List Str} (hsc : X.env.scope = sc) (hN : X.N = N) (h : compCheck sc N scope nT js N' = true) : CompScope X scope nT js N' := by
  unfold compCheck at h
  simp only [Bool.and_eq_true, decide_eq_true_eq, List.all_eq_true, beq_iff_eq] at h
  obtain ⟨⟨⟨h1, h2⟩, h3⟩, h4⟩ := h
  refine ⟨h1, h2, fun x hx hl => ?_, fun x hx hf => ?_, fun x hx hf => ?_, fun i j e => ?_⟩
  · have := (h3 x hx).1
    simp only [hl, bne_self_eq_false, Bool.false_or, beq_iff_eq] at this
    exact this
  · have := (h3 x hx).2
    simp only [hf, bne_self_eq_false, Bool.false_or, Bool.or_eq_true, Bool.and_eq_true, beq_iff_eq] at this
    show X.env.scope.names.lookup x.1 = _ ∨ X.env.scope.names.lookup x.1 = _
    rw [hsc]
    exact this.1
  · have := (h3 x hx).2
    simp only [hf, bne_self_eq_false, Bool.false_or, Bool.or_eq_true, Bool.and_eq_true, beq_iff_eq] at this
    exact this.2
  · have m : (j, i) ∈ js.zipIdx := by
      rw [List.mem_zipIdx_iff_getElem?]
      exact e
    have q := h4 (j, i) m
    rw [hN]
    revert q
    dsimp only
    cases e1 : N'[nT + i]? with
    | none => intro q; cases q
    | some x =>
      cases e2 : N[j]? with
      | none => intro q; cases q
      | some y =>
        intro q
        simp only [Bool.and_eq_true, beq_iff_eq, Bool.not_eq_true'] at q
        obtain ⟨⟨q1, q2⟩, q3⟩ := q
        subst q1
        refine ⟨x, rfl, rfl, ?_, fun y hy hc hxy => ?_⟩
        · unfold isFreeIn at q2
          obtain ⟨z, hz, hz2⟩ := List.any_eq_true.mp q2
          simp only [Bool.and_eq_true, beq_iff_eq] at hz2
          obtain ⟨a, b⟩ := z
          obtain ⟨rfl, rfl⟩ := hz2
          exact hz
        · have : isCellIn scope x = true := List.any_eq_true.mpr ⟨y, hy, by simp [hxy, hc]⟩
          rw [q3] at this; cases this
def capSt (nT : Nat) (js : List Nat) (σ : St) : St := List.replicate nT none ++ js.map fun j => (σ[j]?).join
def PIfs (X : Cx) (ifs : List Expr) (t : TT) : Prop :=
  ∀ (pins : List (Addr × Obj)) (s : Shared) (σ : St) (H : Hp) (Q : Bool → Hp → Prop), Inv X pins σ H s → t σ H Q →
    wpAny (model X.prog X.w) X.A (forIn ifs true fun c r => if r = true then do let ok ← isTrue c X.env (eval c X.env); pure (ForInStep.yield ok) else pure (ForInStep.yield r)) (TP X pins σ Q) X.xe s
def tYes : TT := fun _ H Q => Q true H
theorem pif_nil {X : Cx} : PIfs X [] tYes := fun pins s σ H Q I h => by rw [List.forIn_nil]; exact wpAny_pure ⟨H, I, h⟩
theorem pif_one {X : Cx} {c : Expr} {t : TT} (hc : PT X c t) : PIfs X [c] t := fun pins s σ H Q I h => by
  rw [List.forIn_cons]
  rw [if_pos rfl]
  refine wpAny_bind (wpAny_bind (thn (hc pins s σ H Q I h) fun b s1 q => wpAny_pure ?_))
  show wpAny _ _ (forIn [] b _) _ _ _
  rw [List.forIn_nil]
  exact wpAny_pure q
def compRd (nT : Nat) (js : List Nat) (g : TG) (tt : TT) (te : TE) (σ : St) (F : Addr → Hp → Prop) : It → Hp → Prop := fun J H1 => ∀ l, H1 l = none →
  ∃ W : Nat → Nat → St → Hp → Prop, (∃ m, W 0 m (capSt nT js σ) (upd H1 l (.lst []))) ∧ ∀ i m σ' H', W i m σ' H' →
    (J.stop i H' ∧ F l H') ∨ (J.go i H' ∧ ∀ x H2, J.yld i H' x H2 → g x σ' H2 fun σ3 H3 => ∃ (N : Hp → Prop) (NV : V → Hp → Prop),
      (∀ H4, N H4 → ∃ m', m' < m ∧ W (i + 1) m' σ3 H4) ∧ (∀ v H5, NV v H5 → ∃ ys, H5 l = some (.lst ys) ∧ ys.length < sizeLine ∧ ∃ m', m' < m ∧ W (i + 1) m' σ3 (upd H5 l (.lst (ys ++ [v])))) ∧
      tt σ3 H3 fun b H4 => if b = true then te σ3 H4 NV else N H4)
section
variable {X : Cx} {pins : List (Addr × Obj)} {σ : St} {H : Hp} {s : Shared} {elt tg iter : Expr} {ifs : List Expr} {scope : Scope} {pos : Pos} {wi : TI} {nT : Nat} {js : List Nat} {N' : List Str} {g : TG} {tt : TT} {te : TE}
def OwnC (X : Cx) (pins : List (Addr × Obj)) (H : Hp) (C : Addr) (s : Shared) : Prop := FpOk X pins H C ∧ X.s₀.heap.objs.size ≤ C ∧ ∃ m, s.heap.Ns C m
theorem comp_run {use : Option (Value → Sem Unit)} {Q : Value → Shared → Prop} {F : Addr → Hp → Prop} {cpos : Pos} {Cc : Cx → Prop} (hc : ∀ cells C s H fp, Cc (cxComp X scope N' cells C s H fp)) (S : CompScope X scope nT js N') (hi : PI0 Cc X tg iter wi)
    (hg : ∀ cells C s H fp, PG (cxComp X scope N' cells C s H fp) tg g) (ht : ∀ cells C s H fp, PIfs (cxComp X scope N' cells C s H fp) ifs tt) (he : ∀ cells C s H fp, PE (cxComp X scope N' cells C s H fp) elt te)
    (I : Inv X pins σ H s) (h : wi σ H (compRd nT js g tt te σ F))
    (fin : ∀ (l C : Addr) (s' : Shared) (H' : Hp), Inv X pins σ H' s' → OwnC X pins H' C s' → F l H' → compPost (model X.prog X.w) X.A X.xe use Q (.ref l) C (.ok .next) s')
    (hs : ∀ x, foldedSetIterable iter X.env x = pure x := by intro _; rfl) :
    wpAny (model X.prog X.w) X.A (comprehension (.ListComp elt [⟨tg, iter, ifs, 0⟩] scope pos) scope X.env cpos (newList []) false (eval iter X.env) use) Q X.xe s := by
  have hasC : ∀ x ∈ scope.names, x.2 = .free → ∃ c, X.env.cells.lookup x.1 = some c := fun x hx hf => I.ok.has x.1 (S.free x hx hf)
  obtain ⟨cl, hcl, hclm, hclf⟩ := closure_ok (env := X.env) hasC
  refine wpAny_comprehension_free rfl hs hcl S.kind S.loc (thn (hi pins s σ H _ I h) fun v s1 h1 => thn h1 fun itv s2 h2 => ?_)
  obtain ⟨it, fp, tn, J, H2, e, I2, T, st2, f2, rd⟩ := h2
  subst e
  have I3 : Inv X pins σ (upd H2 s2.heap.objs.size (.lst [])) { s2 with heap := s2.heap.push { cls := .type "list", data := .seq ([] : List Value).toArray } } := I2.lnew (t' := s2.toks) (its := []) .nil (Nat.zero_le _)
  refine wpAny_newObj_type ?_ (by show 0 ≤ sizeLine; exact Nat.zero_le _)
  obtain ⟨W, ⟨m0, w0⟩, turn⟩ := rd s2.heap.objs.size (I2.hok.fresh (Nat.le_refl _))
  have hl2 : H2 s2.heap.objs.size = none := I2.hok.fresh (Nat.le_refl _)
  generalize hl : s2.heap.objs.size = l at I3 w0 turn hl2 ⊢
  generalize hs3 : ({ s2 with heap := s2.heap.push { cls := .type "list", data := .seq ([] : List Value).toArray } } : Shared) = s3 at I3 ⊢
  have z3 : s3.heap.objs.size = l + 1 := by rw [← hs3, ← hl]; exact Heap.size_push ..
  have k23 : ∀ b o, s2.heap.get? b = some o → s3.heap.get? b = some o := fun b o e => by rw [← hs3]; exact Heap.get?_push_of_some _ e
  refine newEnv_comp ?_
  generalize hC : s3.heap.objs.size = C
  generalize hcells : cellsFrom (C + 1) scope.names cl = cells
  have hz4 : (s3.heap.push { cls := .type "dict", data := .dict #[] }).objs.size = C + 1 := by rw [Heap.size_push, hC]
  have k34 : ∀ b o, s3.heap.get? b = some o → (pushCells (s3.heap.push { cls := .type "dict", data := .dict #[] }) scope.names).get? b = some o := fun b o e => pushCells_keeps _ _ b o (Heap.get?_push_of_some _ e)
  have nsC : (pushCells (s3.heap.push { cls := .type "dict", data := .dict #[] }) scope.names).Ns C (fun _ => none) := by
    have := (Heap.Ns.new s3.heap (.type "dict")).keeps (pushCells_keeps scope.names _)
    rwa [hC] at this
  generalize hh4 : pushCells (s3.heap.push { cls := .type "dict", data := .dict #[] }) scope.names = h4 at k34 nsC
  have memC : ∀ x c, cells.lookup x = some c → (X.env.cells.lookup x = some c ∧ @LT.lt Nat _ c C) ∨ (@LE.le Nat _ (C + 1) c ∧ (x, NameKind.cell) ∈ scope.names) := fun x c e => by
    have m := mem_of_lookup e
    rw [← hcells] at m
    rcases cellsFrom_mem _ _ _ _ m with z | z
    · have q := hclm _ z
      obtain ⟨v, iz⟩ := I3.cell x c q
      exact .inl ⟨q, by have := iz.lt; rw [hC] at this; exact this⟩
    · exact .inr z
  have cellsOk : ∀ x c, cells.lookup x = some c → ∃ v, h4.IsCell c v := fun x c e => by
    have m := mem_of_lookup e
    have := pushCells_cells scope.names (s3.heap.push { cls := .type "dict", data := .dict #[] }) cl (fun p hp => by
      obtain ⟨v, iz⟩ := I3.cell p.1 p.2 (hclm p hp)
      exact ⟨v, iz.keeps fun b o e => Heap.get?_push_of_some _ e⟩)
    rw [hz4, hcells, hh4] at this
    exact this _ m
  show codeAny (model X.prog X.w) X.A (.compStart _ 0 (.ref it) (.ref l) (compEnvC scope cells C X.env)) (compPost (model X.prog X.w) X.A X.xe use Q (.ref l) C) { s3 with heap := h4 }
  have fpLt : ∀ b ∈ fp, @LT.lt Nat _ b l := fun b hb => by
    obtain ⟨o, e, _⟩ := T.obj _ _ st2 b hb
    rw [← hl]; exact Heap.lt_size e
  have fpStk : ∀ b ∈ fp, b ∉ frs X.stack := fun b hb z => (List.mem_cons.mp (I2.stkSub b z)).elim (f2 b hb).2.1 (f2 b hb).2.2.1
  have okC : (cxComp X scope N' cells C s3 (upd H2 l (.lst [])) fp).Ok := by
    refine ⟨I3.ok.mod, S.kind, I3.ok.glob, I3.ok.blt, Nat.le_of_eq hC, fun x y c e1 e2 => ?_, fun x hx => ?_, fun x c hf e => ?_, I3.ok.hd, I3.ok.frames, .inl rfl, fun b hb => ⟨?_, fun x c e z => ?_⟩, I3.bs, Nat.le_trans I3.ok.bsz I3.sz, fun b o e hb => ?_, fpStk, I3.stack, I3.stkFree⟩
    · have e1' := mem_of_lookup (show cells.lookup x = some c from e1)
      have e2' := mem_of_lookup (show cells.lookup y = some c from e2)
      rw [← hcells] at e1' e2'
      refine cellsFrom_inj scope.names (C + 1) cl (fun p hp => ?_) (fun x y c h1 h2 => I3.ok.inj x y c (hclm _ h1) (hclm _ h2)) x y c e1' e2'
      obtain ⟨v, iz⟩ := I3.cell p.1 p.2 (hclm p hp)
      have h1 : @LT.lt Nat _ p.2 s3.heap.objs.size := iz.lt
      rw [hC] at h1
      show @LT.lt Nat _ p.2 (C + 1)
      omega
    · have hx' : (relabel scope X.env).names.lookup x = some .cell ∨ (relabel scope X.env).names.lookup x = some .free := hx
      have : ∃ k, (x, k) ∈ scope.names ∧ (k = .cell ∨ k = .free) := by
        have m : ∃ k, (x, k) ∈ (relabel scope X.env).names ∧ (k = .cell ∨ k = .free) := by
          rcases hx' with z | z
          · exact ⟨_, mem_of_lookup z, .inl rfl⟩
          · exact ⟨_, mem_of_lookup z, .inr rfl⟩
        obtain ⟨k, m, hk⟩ := m
        unfold relabel at m
        obtain ⟨⟨n, k'⟩, m', e⟩ := List.mem_map.mp m
        dsimp only at e
        split at e
        · rename_i hcond
          cases e
          simp only [Bool.and_eq_true, beq_iff_eq] at hcond
          exact ⟨k', m', .inr hcond.1.1⟩
        · cases e; exact ⟨k, m', hk⟩
      obtain ⟨k, m, hk⟩ := this
      show ∃ c, cells.lookup x = some c
      rw [← hcells]
      have key : ∃ c, (x, c) ∈ cellsFrom (C + 1) scope.names cl := by
        rcases hk with rfl | rfl
        · have gen : ∀ (names : List (Str × NameKind)) (n : Nat) (acc : List (Str × Addr)), ((x, NameKind.cell) ∈ names ∨ ∃ c, (x, c) ∈ acc) → ∃ c, (x, c) ∈ cellsFrom n names acc := by
            intro names
            induction names with
            | nil => intro n acc h; exact h.elim (fun z => nomatch z) id
            | cons y r ih =>
              intro n acc h
              obtain ⟨y, k⟩ := y
              unfold cellsFrom
              split
              · rename_i hk
                refine ih _ _ ?_
                rcases h with h | ⟨c, h⟩
                · rcases List.mem_cons.mp h with e | h
                  · cases e; exact .inr ⟨n, List.mem_cons_self⟩
                  · exact .inl h
                · exact .inr ⟨c, List.mem_cons_of_mem _ h⟩
              · rename_i hk
                refine ih _ _ ?_
                rcases h with h | h
                · rcases List.mem_cons.mp h with e | h
                  · cases e; exact absurd (show (NameKind.cell == NameKind.cell) = true by decide) hk
                  · exact .inl h
                · exact .inr h
          exact gen _ _ _ (.inl m)
        · obtain ⟨c, hc'⟩ := hclf _ m rfl
          have gen : ∀ (names : List (Str × NameKind)) (n : Nat) (acc : List (Str × Addr)), (x, c) ∈ acc → (x, c) ∈ cellsFrom n names acc := by
            intro names
            induction names with
            | nil => intro n acc h; exact h
            | cons y r ih =>
              intro n acc h
              obtain ⟨y, k⟩ := y
              unfold cellsFrom
              split
              · exact ih _ _ (List.mem_cons_of_mem _ h)
              · exact ih _ _ h
          exact ⟨c, gen _ _ _ hc'⟩
      obtain ⟨c, m⟩ := key
      exact lookup_of_mem m
    · have hf' : decide (scope.names.lookup x = some NameKind.cell) = true := hf
      have hf'' := of_decide_eq_true hf'
      rcases memC x c e with ⟨_, _⟩ | ⟨z, _⟩
      ·
        have gen : ∀ (names : List (Str × NameKind)) (n : Nat) (acc : List (Str × Addr)), names.lookup x = some .cell → C + 1 ≤ n → ∀ c, (cellsFrom n names acc).lookup x = some c → C + 1 ≤ c := by
          intro names
          induction names with
          | nil => intro n acc h; cases h
          | cons y r ih =>
            intro n acc h hn c hcc
            obtain ⟨y, k⟩ := y
            rw [List.lookup_cons] at h
            unfold cellsFrom at hcc
            have last : ∀ (names : List (Str × NameKind)) (n : Nat) (acc : List (Str × Addr)), C + 1 ≤ n → (∀ d, acc.lookup x = some d → C + 1 ≤ d) → ∀ c, (cellsFrom n names acc).lookup x = some c → C + 1 ≤ c := by
              intro names
              induction names with
              | nil => intro n acc _ h c hc; exact h c hc
              | cons y r ih =>
                intro n acc hn h c hc
                obtain ⟨y, k⟩ := y
                unfold cellsFrom at hc
                split at hc
                · refine ih (n + 1) _ (by omega) (fun d hd => ?_) c hc
                  rw [List.lookup_cons] at hd
                  split at hd
                  · cases hd; exact hn
                  · exact h d hd
                · exact ih n acc hn h c hc
            cases hb : x == y with
            | true =>
              rw [hb] at h
              cases h
              rw [if_pos (by decide)] at hcc
              refine last r (n + 1) _ (by omega) (fun d hd => ?_) c hcc
              rw [List.lookup_cons, hb] at hd
              cases hd; exact hn
            | false =>
              rw [hb] at h
              split at hcc
              · exact ih (n + 1) _ h (by omega) c hcc
              · exact ih n acc h hn c hcc
        have e' : cells.lookup x = some c := e
        rw [← hcells] at e'
        have h1 : @LE.le Nat _ (C + 1) c := gen scope.names (C + 1) cl hf'' (Nat.le_refl _) c e'
        show @LE.le Nat _ s3.heap.objs.size c
        omega
      · show @LE.le Nat _ s3.heap.objs.size c
        omega
    · have := fpLt b hb
      show @Ne Nat b C
      omega
    · subst z
      rcases memC x c e with ⟨q, _⟩ | ⟨q, _⟩
      · exact (f2 c hb).2.2.2.2.1 x c q rfl
      · have := fpLt c hb
        omega
    · rcases (f2 b hb).2.2.2.1 with z | z
      · exact I3.ok.noex b o e z
      · exact absurd (Nat.lt_of_lt_of_le (Heap.lt_size e) (Nat.le_trans I3.ok.bsz z)) (Nat.lt_irrefl _)
  have HC : ∀ c : Addr, @LE.le Nat _ C c → upd H2 l (.lst []) c = none := fun c hcc => I3.hok.fresh (show @LE.le Nat _ s3.heap.objs.size c by omega)
  have I4 : Inv (cxComp X scope N' cells C s3 (upd H2 l (.lst [])) fp) [] (capSt nT js σ) (upd H2 l (.lst [])) { s3 with heap := h4 } := by
    refine ⟨okC, rfl, I3.bare, Un.kept k34, ⟨_, nsC, fun i x v e1 e2 e3 => ?_⟩, cellsOk, HC C (Nat.le_refl _), fun x c e => ?_, (fun p hp => nomatch hp), I3.hok.kept k34, ?_⟩
    ·
      unfold capSt at e2
      by_cases hi' : i < nT
      · rw [List.getElem?_append_left (by simpa using hi'), List.getElem?_replicate] at e2
        split at e2 <;> cases e2
      · rw [List.getElem?_append_right (by simpa using hi'), List.length_replicate, List.getElem?_map] at e2
        cases ej : js[i - nT]? with
        | none => rw [ej] at e2; cases e2
        | some j =>
          rw [ej] at e2
          have e2' : (σ[j]?).join = some v := by simpa using e2
          have e2'' : σ[j]? = some (some v) := by
            cases eσ : σ[j]? with
            | none => rw [eσ] at e2'; cases e2'
            | some o => rw [eσ] at e2'; exact congrArg some e2'
          obtain ⟨y, n1, n2, n3, n4⟩ := S.cap _ _ ej
          have : nT + (i - nT) = i := by omega
          rw [this] at n1
          have exy : x = y := by
            have e1' : N'[i]? = some x := e1
            rw [n1] at e1'; exact (Option.some.inj e1').symm
          subst exy
          obtain ⟨m, hn, hlk⟩ := I3.loc
          have kinds := S.free _ n3 rfl
          have vis : Vis X.env.scope x := by
            rcases kinds with k | k
            · exact .inr (.inl k)
            · exact .inr (.inr k)
          obtain ⟨u, r, lk⟩ := hlk j x v n2 e2'' vis
          refine ⟨u, r, ?_⟩
          rcases lk with ⟨k, _⟩ | ⟨k, c, ec, iz⟩
          · rcases kinds with k' | k'
            · rw [k] at k'; cases k'
            · rw [k] at k'; cases k'
          · refine .inr ⟨?_, c, ?_, iz.keeps k34⟩
            · show (relabel scope X.env).names.lookup x = some .cell ∨ (relabel scope X.env).names.lookup x = some .free
              have e3' : Vis (relabel scope X.env) x := e3
              rcases e3' with z | z | z
              ·
                exfalso
                have m := mem_of_lookup z
                unfold relabel at m
                obtain ⟨⟨n, k'⟩, m', e⟩ := List.mem_map.mp m
                dsimp only at e
                split at e
                · cases e
                · cases e
                  have q := S.loc _ m' rfl
                  rw [S.frl _ n3 rfl] at q
                  cases q
              · exact .inl z
              · exact .inr z
            · show cells.lookup x = some c
              rw [← hcells, cellsFrom_old _ _ _ n4]
              obtain ⟨d, hd⟩ := hclf _ n3 rfl
              obtain ⟨d', hd'⟩ := lookup_of_mem hd
              have := hclm _ (mem_of_lookup hd')
              rw [ec] at this
              rw [hd', Option.some.inj this]
    · rcases memC x c e with ⟨q, _⟩ | ⟨q, _⟩
      · exact I3.freeC x c q
      · exact HC c (by omega)
    · unfold capSt
      show _ = N'.length
      rw [S.len, List.length_append, List.length_replicate, List.length_map]
  have stat : ∀ {H' : Hp}, (∀ b ∈ fp, H' b = none) → ∀ b ∈ fp, FpOk (cxComp X scope N' cells C s3 (upd H2 l (.lst [])) fp) [] H' b := fun hn b hb => by
    refine ⟨hn b hb, ?_, fpStk b hb, .inl hb, fun x c e z => ?_, (fun p hp => nomatch hp)⟩
    · have := fpLt b hb
      show @Ne Nat b C
      omega
    · subst z
      rcases memC x c e with ⟨q, _⟩ | ⟨q, _⟩
      · exact (f2 c hb).2.2.2.2.1 x c q rfl
      · have := fpLt c hb
        omega
  have fr0 : ∀ b ∈ fp, upd H2 l (.lst []) b = none := fun b hb => by
    rw [upd_ne (Nat.ne_of_lt (fpLt b hb))]
    exact (f2 b hb).1
  have tn4 : tn 0 h4 := T.keep _ _ _ st2 fun b _ o e => k34 b o (k23 b o e)
  have loop : codeAny (model X.prog X.w) X.A (.compLoop (.ListComp elt [⟨tg, iter, ifs, 0⟩] scope pos) 0 (.ref it) (.ref l) (compEnvC scope cells C X.env)) (compPost (model X.prog X.w) X.A X.xe use Q (.ref l) C) { s3 with heap := h4 } := by
    refine compLoop_gen (fun n s' => ∃ i σ' H', Inv (cxComp X scope N' cells C s3 (upd H2 l (.lst [])) fp) [] σ' H' s' ∧ tn i s'.heap ∧ (∀ b ∈ fp, H' b = none) ∧ W i n σ' H') ?_ m0 ⟨0, _, _, I4, tn4, fr0, w0⟩
    rintro n s5 ⟨i, σ5, H5, I5, st5, fr5, w5⟩
    rcases turn i n σ5 H5 w5 with ⟨stop, qn⟩ | ⟨go, step⟩
    · refine thn (T.done (cxComp X scope N' cells C s3 (upd H2 l (.lst [])) fp) rfl rfl rfl (hc _ _ _ _ _) i [] s5 σ5 H5 noX I5 (stat fr5) st5 stop) fun r s6 ⟨hr, I6⟩ => ?_
      subst hr
      have un : Un (frs X.stack) fp (upd H2 l (.lst [])) H5 s3.heap s6.heap := I6.base
      have J6 : Inv X pins σ H5 s6 := I3.call' (ch := fp) I6.os un I6.hok I6.bare fun b hb => ⟨(f2 b hb).2.2.2.1, (f2 b hb).2.1, (f2 b hb).2.2.2.2.1, (f2 b hb).2.2.2.2.2⟩
      obtain ⟨m6, n6, _⟩ := I6.loc
      have hCX : @Ne Nat C X.env.locals := by
        have h1 : @LT.lt Nat _ X.env.locals s3.heap.objs.size := I3.lt
        omega
      have hCs : @LE.le Nat _ X.s₀.heap.objs.size C := by have := I3.sz; omega
      refine fin l C s6 H5 J6 ⟨⟨I6.free, hCX, fun z => ?_, .inr hCs, fun x c e z => ?_, fun p hp z => ?_⟩, hCs, m6, n6⟩ qn
      · have := I3.nofs (a := C) (Nat.le_of_eq hC)
        exact this z
      · obtain ⟨v, iz⟩ := I3.cell x c e
        have h1 : @LT.lt Nat _ c s3.heap.objs.size := iz.lt
        have h2 : @Eq Nat c C := z
        omega
      · have h1 : @LT.lt Nat _ p.1 s3.heap.objs.size := Heap.lt_size (I3.pin p hp).1
        have h2 : @Eq Nat p.1 C := z
        omega
    · refine thn (T.item (cxComp X scope N' cells C s3 (upd H2 l (.lst [])) fp) rfl rfl rfl (hc _ _ _ _ _) i [] s5 σ5 H5 noX I5 (stat fr5) st5 go) fun r s6 ⟨u, hr, h6⟩ => ?_
      subst hr
      refine thn h6 fun _ s7 ⟨x, H7, I7, r7, y7, st7, fr7⟩ => ?_
      have I7' := I7.pinned (stat fr7) (T.obj _ _ st7)
      refine thn (hg cells C s3 (upd H2 l (.lst [])) fp _ s7 σ5 H7 x u _ I7' r7 (step x H7 y7)) fun _ s8 ⟨σ8, H8, I8, q8⟩ => ?_
      have again : ∀ {H9 : Hp} {s9 : Shared}, Inv (cxComp X scope N' cells C s3 (upd H2 l (.lst [])) fp) ([] ++ pinsAt fp s7.heap) σ8 H9 s9 → tn (i + 1) s9.heap ∧ ∀ b ∈ fp, H9 b = none := fun {H9 s9} I9 => by
        refine ⟨T.keep _ _ _ st7 fun b hb o e => (I9.pin (b, o) (List.mem_append_right _ (List.mem_append_right _ (mem_pinsAt hb e)))).1, fun b hb => ?_⟩
        obtain ⟨o, e, d⟩ := T.obj _ _ st7 b hb
        exact (I9.pin (b, o) (List.mem_append_right _ (List.mem_append_right _ (mem_pinsAt hb e)))).2.1
      obtain ⟨N, NV, hN, hNV, q8⟩ := q8
      refine thn (ht cells C s3 (upd H2 l (.lst [])) fp _ s8 σ8 H8 _ I8 q8) fun b s9 ⟨H9, I9, q9⟩ => ?_
      cases b with
      | false =>
        rw [if_neg Bool.false_ne_true] at q9 ⊢
        obtain ⟨m', hm, w9⟩ := hN _ q9
        exact ⟨m', hm, i + 1, σ8, H9, I9.unpinned, (again I9).1, (again I9).2, w9⟩
      | true =>
        rw [if_pos rfl] at q9 ⊢
        refine thn (he cells C s3 (upd H2 l (.lst [])) fp _ s9 σ8 H9 _ I9 q9) fun y s10 ⟨v, H10, I10, r10, q10⟩ => ?_
        obtain ⟨ys, el, hz, m', hm, w10⟩ := hNV _ _ q10
        refine thn (mt_append (X := cxComp X scope N' cells C s3 (upd H2 l (.lst [])) fp) _ s10 σ8 H10 (.ref l) [v] (.ref l) [y] (fun z H11 => z = .non ∧ H11 = upd H10 l (.lst (ys ++ [v]))) I10 rfl (.cons r10 .nil) ⟨l, ys, v, rfl, rfl, el, hz, rfl, rfl⟩) fun _ s11 ⟨_, H11, I11, _, _, e11⟩ => ?_
        subst e11
        exact ⟨m', hm, i + 1, σ8, _, I11.unpinned, (again I11).1, (again I11).2, w10⟩
  refine codeAny_compStart_list loop (T.self _ 0 _ _ _ tn4 loop)
end
end L2
namespace L2
open PySem PySem.Spec PyProof.Rows
section
variable {X : Cx} {elt tg iter : Expr} {ifs : List Expr} {scope : Scope} {pos : Pos} {wi : TI} {nT : Nat} {js : List Nat} {N' : List Str} {g : TG} {tt : TT} {te : TE}
def tComp (wi : TI) (nT : Nat) (js : List Nat) (g : TG) (tt : TT) (te : TE) : TE := fun σ H Q => wi σ H (compRd nT js g tt te σ fun l H' => Q (.ref l) H')
theorem pe_comp0 {Cc : Cx → Prop} (hc : ∀ cells C s H fp, Cc (cxComp X scope N' cells C s H fp)) (S : CompScope X scope nT js N') (hi : PI0 Cc X tg iter wi)
    (hg : ∀ cells C s H fp, PG (cxComp X scope N' cells C s H fp) tg g) (ht : ∀ cells C s H fp, PIfs (cxComp X scope N' cells C s H fp) ifs tt) (he : ∀ cells C s H fp, PE (cxComp X scope N' cells C s H fp) elt te)
    (hs : ∀ x, foldedSetIterable iter X.env x = pure x := by intro _; rfl) : PE X (.ListComp elt [⟨tg, iter, ifs, 0⟩] scope pos) (tComp wi nT js g tt te) := by
  intro pins s σ H Q I h
  rw [eval_ListComp]
  refine comp_run (use := none) hc S hi hg ht he I h (fun l C s' H' I' ⟨f, _, m, n⟩ q => ?_) hs
  refine ⟨m, n, fun h' sb => ⟨.ref l, H', ?_, rfl, q⟩⟩
  exact I'.turned (t' := s'.toks) (fun b o hb e => (sb.2 b hb).trans e) f.1 f.2.1 f.2.2.2.1 f.2.2.2.2.1 f.2.2.2.2.2
theorem pe_comp (hc : X.calm = true) (S : CompScope X scope nT js N') (hi : PI X tg iter wi)
    (hg : ∀ cells C s H fp, PG (cxComp X scope N' cells C s H fp) tg g) (ht : ∀ cells C s H fp, PIfs (cxComp X scope N' cells C s H fp) ifs tt) (he : ∀ cells C s H fp, PE (cxComp X scope N' cells C s H fp) elt te)
    (hs : ∀ x, foldedSetIterable iter X.env x = pure x := by intro _; rfl) : PE X (.ListComp elt [⟨tg, iter, ifs, 0⟩] scope pos) (tComp wi nT js g tt te) := pe_comp0 (fun _ _ _ _ _ => hc) S hi hg ht he hs
theorem ps_setComp0 {Cc : Cx → Prop} {i : Nat} {x : Str} {pos' spos : Pos} (hN : X.N.Nodup) (hi' : X.N[i]? = some x) (hx : X.env.scope.names.lookup x = some .local) (hc : ∀ cells C s H fp, Cc (cxComp X scope N' cells C s H fp)) (S : CompScope X scope nT js N') (hi : PI0 Cc X tg iter wi)
    (hg : ∀ cells C s H fp, PG (cxComp X scope N' cells C s H fp) tg g) (ht : ∀ cells C s H fp, PIfs (cxComp X scope N' cells C s H fp) ifs tt) (he : ∀ cells C s H fp, PE (cxComp X scope N' cells C s H fp) elt te)
    (hsw : swapsWith (.ListComp elt [⟨tg, iter, ifs, 0⟩] scope pos) (some (.Name x pos')) spos.line X.env = pure true := by rfl)
    (hs : ∀ x, foldedSetIterable iter X.env x = pure x := by intro _; rfl) : PS X (.Assign [.Name x pos'] (.ListComp elt [⟨tg, iter, ifs, 0⟩] scope pos) spos) (tAsg (tComp wi nT js g tt te) (gName i)) := by
  intro pins s σ H D I h
  rw [exec_Assign_Name_used _ _ _ _ hsw]
  refine wpAny_bind (wpAny_standAt (wpAny_bind ?_))
  show wpAny _ X.A (do let _ ← comprehension (.ListComp elt [⟨tg, iter, ifs, 0⟩] scope pos) scope X.env _ (newList []) false (eval iter X.env) (some (assign (.Name x pos') X.env))) _ _ s
  refine wpAny_bind (wpAny_mono (comp_run (use := some (assign (.Name x pos') X.env)) (Q := fun _ s' => SP X pins D .next s') hc S hi hg ht he I h (fun l C s' H' I' ⟨f, sz, m, n⟩ q => ?_) hs) (fun _ s' hq => wpAny_pure (wpAny_pure hq)) fun _ _ e => e)
  show wpAny _ _ (assign (.Name x pos') X.env (.ref l)) _ _ s'
  refine wpAny_assign_Name (store_ok2 I' hN hi' (.inl hx) (v := .ref l) rfl (fun s'' I'' ⟨a, sb, ha⟩ => ?_) (.inr hx))
  have hCa : C ≠ a := by
    rcases ha with rfl | ha
    · exact f.2.1
    · exact fun z => f.2.2.2.2.1 x a ha z.symm
  refine ⟨m, n.sameBut sb hCa, fun h' sb' => ⟨_, H', ?_, q⟩⟩
  exact I''.turned (t' := s''.toks) (fun b o hb e => (sb'.2 b hb).trans e) f.1 f.2.1 f.2.2.2.1 f.2.2.2.2.1 f.2.2.2.2.2
theorem ps_setComp {i : Nat} {x : Str} {pos' spos : Pos} (hN : X.N.Nodup) (hi' : X.N[i]? = some x) (hx : X.env.scope.names.lookup x = some .local) (hc : X.calm = true) (S : CompScope X scope nT js N') (hi : PI X tg iter wi)
    (hg : ∀ cells C s H fp, PG (cxComp X scope N' cells C s H fp) tg g) (ht : ∀ cells C s H fp, PIfs (cxComp X scope N' cells C s H fp) ifs tt) (he : ∀ cells C s H fp, PE (cxComp X scope N' cells C s H fp) elt te)
    (hsw : swapsWith (.ListComp elt [⟨tg, iter, ifs, 0⟩] scope pos) (some (.Name x pos')) spos.line X.env = pure true := by rfl)
    (hs : ∀ x, foldedSetIterable iter X.env x = pure x := by intro _; rfl) : PS X (.Assign [.Name x pos'] (.ListComp elt [⟨tg, iter, ifs, 0⟩] scope pos) spos) (tAsg (tComp wi nT js g tt te) (gName i)) := ps_setComp0 hN hi' hx (fun _ _ _ _ _ => hc) S hi hg ht he hsw hs
end
section
variable {js : List Nat} {tt : TT} {te : TE} {σ : St} {F : Addr → Hp → Prop}
theorem comp_list {K : PySem.W.Frag} {a : Addr} {xs : List V} {H1 : Hp} (Pv : Addr → Nat → Hp → Prop)
    (h0 : ∀ l, H1 l = none → Pv l 0 (upd H1 l (.lst []))) (hl : ∀ l i H, i ≤ xs.length → Pv l i H → SqL K H a xs)
    (hs : ∀ l i x H, xs[i]? = some x → Pv l i H → tt (some x :: js.map fun j => (σ[j]?).join) H fun b H4 =>
      if b = true then te (some x :: js.map fun j => (σ[j]?).join) H4 fun v H5 => ∃ ys, H5 l = some (.lst ys) ∧ ys.length < sizeLine ∧ Pv l (i + 1) (upd H5 l (.lst (ys ++ [v]))) else Pv l (i + 1) H4)
    (hd : ∀ l H, Pv l xs.length H → F l H) : compRd 1 js (gName 0) tt te σ F (Itl K a) H1 := by
  intro l hl0
  refine ⟨fun i m σ' H => m = xs.length - i ∧ i ≤ xs.length ∧ (∃ o, σ' = o :: js.map fun j => (σ[j]?).join) ∧ Pv l i H, ⟨xs.length, by simp, Nat.zero_le _, ⟨none, rfl⟩, h0 l hl0⟩, ?_⟩
  rintro i m σ' H ⟨rfl, hi, ⟨o, rfl⟩, p⟩
  have q := hl l i H hi p
  by_cases hlt : i < xs.length
  · refine .inr ⟨⟨xs, xs[i], q, by simp [hlt]⟩, fun x H2 y => ?_⟩
    obtain ⟨e, y⟩ := y
    subst e
    refine ⟨Pv l (i + 1), fun v H5 => ∃ ys, H5 l = some (.lst ys) ∧ ys.length < sizeLine ∧ Pv l (i + 1) (upd H5 l (.lst (ys ++ [v]))), fun H4 p4 => ⟨xs.length - (i + 1), by omega, rfl, hlt, ⟨some x, rfl⟩, p4⟩,
      fun v H5 ⟨ys, e1, e2, p5⟩ => ⟨ys, e1, e2, xs.length - (i + 1), by omega, rfl, hlt, ⟨some x, rfl⟩, p5⟩, hs l i x _ (y xs q) p⟩
  · have e : i = xs.length := by omega
    subst e
    exact .inl ⟨⟨xs, q, Nat.le_refl _⟩, hd l H p⟩
end
end L2
namespace L2
open PySem PySem.Spec PyProof.Rows
section
variable {X : Cx}
theorem call_isi : CallR X (.builtin "isinstance") (fun xs H Q => ∃ x t T b, xs = [x, .ty T] ∧ TyOf X.K H x t ∧ PySem.W.kitOne X.K t (.type T) = some b ∧ Q (.bl b) H) := by
  intro pins s σ H xs us Q I r h
  obtain ⟨x, t, T, b, rfl, ty, e, q⟩ := h
  obtain ⟨u, w', rfl, r1, r2⟩ := vals2 r
  cases r2
  exact isinst_ok I r1 ty e fun tk => ⟨.bl b, H, I.tok tk, rfl, q⟩
theorem boot_isinstance : bootBuiltins "isinstance" = some (.builtin "isinstance") := by decide +kernel
def isI : Hp → V → Int → Prop := fun _ x n => x = .int n
def isLs (K : PySem.W.Frag) {α : Type} (R : Hp → V → α → Prop) : Hp → V → List α → Prop := fun H x as => ∃ p vs, x = .ref p ∧ SqL K H p vs ∧ Paired (R H) vs as
theorem Paired.at {α β : Type} {F : α → β → Prop} : ∀ {l₁ : List α} {l₂ : List β} {i : Nat} {a : α}, Paired F l₁ l₂ → l₁[i]? = some a → ∃ b, l₂[i]? = some b ∧ F a b
  | _, _, _, _, .nil, e => by simp at e
  | _, _, 0, _, .cons r _, e => by simp at e; subst e; exact ⟨_, rfl, r⟩
  | _, _, i + 1, a, .cons _ t, e => by
    obtain ⟨u, h1, h2⟩ := Paired.at (i := i) (a := a) t (by simpa using e)
    exact ⟨u, by simpa using h1, h2⟩
theorem Vals.at' {xs : List V} {us : List Value} {i : Nat} {u : Value} (r : Vals xs us) (h : us[i]? = some u) : ∃ x, xs[i]? = some x ∧ RelV x u := by
  have hl := r.length
  have hi : i < us.length := (List.getElem?_eq_some_iff.mp h).1
  have e : xs[i]? = some xs[i] := by simp
  obtain ⟨u', h1, h2⟩ := r.get e
  rw [h] at h1; cases h1
  exact ⟨_, e, h2⟩
section
variable {K : PySem.W.Frag} {α : Type} [DecidableEq α] {R : Hp → V → α → Prop} {k : Nat}
end
section
variable {prog : Program} {w : World} {A : Around} {E : Value → Shared → Prop} {s : Shared}
end
end
end L2
namespace L2
open PySem PySem.Spec PyProof.Rows
def Df (P : Program) (w : World) (K : PySem.W.Frag) (mg : Str → Option Value) (base : Heap) (k : Nat) (x : Str) (ps : List Str) (sp : Sp) : Prop :=
  ∃ f fd, mg x = some (.ref f) ∧ PySem.W.keepIn K (.ref f) = true ∧ Binds K fd ps [] ∧ FnOk P w K mg base CX0 k f fd ps sp
def Dm (P : Program) (w : World) (K : PySem.W.Frag) (mg : Str → Option Value) (base : Heap) (k : Nat) (C : Addr) (m : Str) (ps : List Str) (sp : Sp) : Prop :=
  ∃ f fd, Cls K C ∧ Meth K C m f ∧ Binds K fd ps [] ∧ FnOk P w K mg base CX0 k f fd ps sp
def Dk (P : Program) (w : World) (K : PySem.W.Frag) (mg : Str → Option Value) (base : Heap) (k : Nat) (x : Str) (C : Addr) (ps : List Str) (sp : Sp) : Prop :=
  ∃ f fd, mg x = some (.ref C) ∧ Mk K C f ∧ Binds K fd ps [] ∧ FnOk P w K mg base CX0 k f fd ps sp
section
variable {X : Cx} {k : Nat} {C : Addr} {ps : List Str} {sp : Sp} {x m : Str} {p pos apos : Pos} {e o : Expr} {es : List Expr} {ta : TE} {t : TA}
theorem pe_callD (D : Df X.prog X.w X.K X.mg X.base k x ps sp) (hr : Room k X.A) (hg : Gl X x)
    (ha : PA X (e :: es) t) (hdb : (x == ("__debug__" : Str)) = false := by decide) (he : starEach (e :: es) X.env = (false, eval e X.env) :: starEach es X.env := by rfl) (hpl : (backTo pos (starEach es X.env)).any (·.1) = false := by rfl) :
    PE X (.Call (.Name x p) (e :: es) [] pos) (tCall sp [] E0 t) := by
  obtain ⟨f, fd, hm, kp, b, F⟩ := D
  exact pe_call F hr hg hm kp b .nil pass0 ha hdb he hpl
theorem pe_methD {pl : Sem Bool} (he : PE X o ta) (D : Dm X.prog X.w X.K X.mg X.base k C m ps sp) (hr : Room k X.A) (ha : PA X (e :: es) t)
    (hst : starEach (e :: es) X.env = (false, eval e X.env) :: starEach es X.env := by rfl) (hpl : (backTo pos (starEach es X.env)).any (·.1) = false := by rfl)
    (ht : eval (.Call (.Attribute o m apos) (e :: es) [] pos) X.env = (do
      let ov ← eval o X.env
      standAt apos.atName
      let (f, first) ← holding [ov] (getMethod ov m pl)
      callWith pos f first (backTo pos (starEach (e :: es) X.env)) (backToKw pos (keywordEach [] X.env))) := by rfl) :
    PE X (.Call (.Attribute o m apos) (e :: es) [] pos) (tMeth C m sp [] E0 ta t) := by
  obtain ⟨f, fd, cl, hm, b, F⟩ := D
  exact pe_meth he cl hm F hr b .nil pass0 ha hst hpl ht
theorem pe_makeD (D : Dk X.prog X.w X.K X.mg X.base k x C ps sp) (hr : Room (k + 1) X.A) (hg : Gl X x)
    (ha : PA X (e :: es) t) (hdb : (x == ("__debug__" : Str)) = false := by decide) (he : starEach (e :: es) X.env = (false, eval e X.env) :: starEach es X.env := by rfl) (hpl : (backTo pos (starEach es X.env)).any (·.1) = false := by rfl) :
    PE X (.Call (.Name x p) (e :: es) [] pos) (tMake C sp [] E0 t) := by
  obtain ⟨f, fd, hm, M, b, F⟩ := D
  exact pe_make M F hr hg hm b .nil pass0 ha hdb he hpl
end
def Fn0 (K : PySem.W.Frag) (x qual : Str) (st : Stmt) : Prop := ∃ f fd, PySem.W.nsIn K mainGlobals x = some (some (.ref f)) ∧ Fun K x qual st f fd
theorem fn0_mk {K : PySem.W.Frag} {x qual : Str} {st : Stmt} {f : Addr} {oc : Value} {od an : Option Addr} {osl : Array (Option Value)} {kV doc pm cdv ct : Value} (a : PySem.W.nsIn K mainGlobals x = some (some (.ref f)))
    (l : K.lookup f = some ⟨oc, od, .func (PySem.W.fnOf x qual (defArgs st) (defBody st) (defScope st) .none kV doc pm an cdv ct), osl⟩)
    (c : PySem.W.codeIn K cdv qual = true) (k : PySem.W.keepIn K (.ref f) = true) : Fn0 K x qual st := ⟨f, _, a, fun_mk l c k⟩
def Me0 (K : PySem.W.Frag) (C : Addr) (m qual : Str) (st : Stmt) : Prop := ∃ f fd, Meth K C m f ∧ Fun K m qual st f fd
theorem me0_mk {K : PySem.W.Frag} {C : Addr} {m qual : Str} {st : Stmt} {f : Addr} {oc : Value} {od an : Option Addr} {osl : Array (Option Value)} {kV doc pm cdv ct : Value} (a : PySem.W.findIn K (.ref C) m = some (some (.ref f))) (i : PySem.W.isFn K (.ref f) = true)
    (l : K.lookup f = some ⟨oc, od, .func (PySem.W.fnOf m qual (defArgs st) (defBody st) (defScope st) .none kV doc pm an cdv ct), osl⟩)
    (c : PySem.W.codeIn K cdv qual = true) (k : PySem.W.keepIn K (.ref f) = true) : Me0 K C m qual st := ⟨f, _, ⟨a, i, k⟩, fun_mk l c k⟩
end L2
set_option maxRecDepth 100000
namespace L2
open PySem PySem.Spec PyProof.Rows
theorem same_upd {H H2 : Hp} {T : Addr} {o : HO} (e : Same H H2) (h : H2 T = Option.none) : Same H (upd H2 T o) := fun b u hb => by
  rw [upd_ne (ne_of_none (e b u hb) h)]
  exact e b u hb
theorem same_new {H H2 : Hp} {T : Addr} {o : HO} (e : Same H H2) (h : H T = Option.none) : Same H (upd H2 T o) := fun b u hb => by
  rw [upd_ne (ne_of_none hb h)]
  exact e b u hb
def Rw (H : Hp) (x : V) (r : List Int) : Prop := ∃ a, x = .ref a ∧ H a = some (.lst (r.map V.int))
def Tb (H : Hp) (x : V) (t : List (List Int)) : Prop := ∃ a xs, x = .ref a ∧ H a = some (.lst xs) ∧ Paired (Rw H) xs t
theorem Rw.mono {H H' : Hp} {x : V} {r : List Int} (e : Same H H') (h : Rw H x r) : Rw H' x r := let ⟨a, q1, q2⟩ := h; ⟨a, q1, e _ _ q2⟩
theorem Tb.mono {H H' : Hp} {x : V} {t : List (List Int)} (e : Same H H') (h : Tb H x t) : Tb H' x t := let ⟨a, xs, q1, q2, q3⟩ := h; ⟨a, xs, q1, e _ _ q2, Paired.mapP q3 fun _ _ z => z.mono e⟩
def RwN (H H' : Hp) (x : V) (r : List Int) : Prop := ∃ a, x = .ref a ∧ H a = none ∧ H' a = some (.lst (r.map V.int))
def TbN (H H' : Hp) (l : Addr) (t : List (List Int)) : Prop := H l = none ∧ ∃ xs, H' l = some (.lst xs) ∧ Paired (RwN H H') xs t
theorem RwN.rw {H H' : Hp} {x : V} {r : List Int} (h : RwN H H' x r) : Rw H' x r := let ⟨a, q1, _, q2⟩ := h; ⟨a, q1, q2⟩
theorem TbN.tb {H H' : Hp} {l : Addr} {t : List (List Int)} (h : TbN H H' l t) : Tb H' (.ref l) t := let ⟨_, xs, q1, q2⟩ := h; ⟨l, xs, rfl, q1, Paired.mapP q2 fun _ _ z => z.rw⟩
theorem Paired.snoc' {α β : Type} {F : α → β → Prop} {a : α} {b : β} {l₁ : List α} {l₂ : List β} (r : Paired F l₁ l₂) (h : F a b) : Paired F (l₁ ++ [a]) (l₂ ++ [b]) := Paired.snoc r h
theorem paired_ints : ∀ (r : List Int), Paired (fun (x : V) n => x = V.int n) (r.map V.int) r
  | [] => .nil
  | _ :: r => .cons rfl (paired_ints r)
section
variable {js : List Nat} {te : TE} {σ : St} {F : Addr → Hp → Prop} {H : Hp}
abbrev caps (σ : St) (js : List Nat) : St := js.map fun j => (σ[j]?).join
end
end L2
namespace L2
open PySem PySem.Spec PyProof.Rows
section
variable (K : PySem.W.Frag) {X : Cx} {pos : Pos}
theorem ixlK (h : X.K = K := by rfl) : IxR X (rIxL K) := h ▸ ix_list
theorem ixtK (h : X.K = K := by rfl) : IxR X (rIxT K) := h ▸ ix_tup
theorem pilK {tg l : Expr} {tl : TE} (hl : PE X l tl) (h : X.K = K := by rfl) : PI X tg l (iList K tl) := h ▸ pi_list hl
theorem pgtK {es : List Expr} {k : Nat} {t : TGs} {n : Nat} (hc : X.calm = true) (hh : PGs X es t) (h : X.K = K := by rfl)
    (hn : (assignEach es X.env).length = n := by rfl) (hst : (assignEach es X.env).findIdx? (·.1) = none := by rfl) : PG X (.Tuple es k pos) (gTup K n t) := h ▸ pg_tup hc hh hn hst
theorem lenK (h : X.K = K := by rfl) : CallR X (.builtin "len") (fun xs H Q => ∃ p ys, xs = [.ref p] ∧ (SqL K H p ys ∨ SqT K H p ys) ∧ Q (.int ys.length) H) := h ▸ call_len_seq
theorem isiK (h : X.K = K := by rfl) : CallR X (.builtin "isinstance") (fun xs H Q => ∃ x t T b, xs = [x, .ty T] ∧ TyOf K H x t ∧ PySem.W.kitOne K t (.type T) = some b ∧ Q (.bl b) H) := h ▸ call_isi
theorem fldK {e : Expr} {f : Str} {ta : TE} (he : PE X e ta) (hb : attributeBase e f X.env (eval e X.env) = eval e X.env) (h : X.K = K := by rfl) : PE X (.Attribute e f pos) (tFld K ta f) := h ▸ pe_fld he hb
theorem listK (h : X.K = K := by rfl) : CallR X (.type "list") (fun xs H Q => ∃ p ys, xs = [.ref p] ∧ (SqL K H p ys ∨ SqT K H p ys) ∧ ∀ l, H l = none → Q (.ref l) (upd H l (.lst ys))) := h ▸ call_list_of
theorem inK (h : X.K = K := by rfl) : OpR X (compareOp .In) (rIn K false) := h ▸ op_in_seq
theorem notinK (h : X.K = K := by rfl) : OpR X (compareOp .NotIn) (rIn K true) := h ▸ op_notIn_seq
theorem bm0K {o : Expr} {to : TE} {name : Str} {apos cpos : Pos} {T id : String} {r : V → List V → Hp → VK → Prop} (pa : PlainAttrs T) (slot : Slot T name id) (hty : typeOf (.builtin id) = pure (.type "method_descriptor")) (hm : MtR X id r) (ho : PE X o to) (h : X.K = K := by rfl)
    (hbase : attributeBase o name X.env (eval o X.env) = eval o X.env := by rfl) (hline : (apos.endLine == cpos.line) = true := by rfl) : PE X (.Call (.Attribute o name apos) [] [] cpos) (tBM0 K T r to) := h ▸ pe_bm0 pa slot hty hm ho hbase hline
theorem bmK {o e : Expr} {es : List Expr} {to : TE} {t : TA} {name : Str} {apos cpos : Pos} {T id : String} {r : V → List V → Hp → VK → Prop} (pa : PlainAttrs T) (slot : Slot T name id) (hty : typeOf (.builtin id) = pure (.type "method_descriptor")) (hm : MtR X id r) (ho : PE X o to) (ha : PA X (e :: es) t) (h : X.K = K := by rfl)
    (hbase : attributeBase o name X.env (eval o X.env) = eval o X.env := by rfl)
    (hfew : ((backTo cpos (starEach (e :: es) X.env)).all (fun x => !x.1) && (backToKw cpos (keywordEach [] X.env)).all (fun x => x.1.isSome)
      && decide ((e :: es).length + ([] : List Keyword).length + (if ([] : List Keyword).isEmpty then 0 else 1) < 30)) = true := by rfl)
    (hline : (apos.endLine == cpos.line) = true := by rfl) (hs : starEach (e :: es) X.env = (false, eval e X.env) :: starEach es X.env := by rfl) (hplain : (backTo cpos (starEach es X.env)).any (·.1) = false := by rfl) :
    PE X (.Call (.Attribute o name apos) (e :: es) [] cpos) (tBM K T r to t) := h ▸ pe_bm pa slot hty hm ho ha hbase hfew hline hs hplain
end
end L2
namespace L2
open PySem PySem.Spec PyProof.Rows
def tIfJ (c : TT) (t u : TS) : TS := fun D σ H => ∃ J : St → Hp → Prop, (∀ σ' H', J σ' H' → D.nx σ' H') ∧ c σ H fun b H1 => if b = true then t { D with nx := J } σ H1 else u { D with nx := J } σ H1
theorem ps_ifJ {X : Cx} {pos : Pos} {t u : TS} {c : Expr} {a b : List Stmt} {tc : TT} (hc : PT X c tc) (ha : PSs X a t) (hb : PSs X b u) : PS X (.If c a b pos) (tIfJ tc t u) := by
  intro pins s σ H D I h
  obtain ⟨J, hJ, h⟩ := h
  refine thn (ps_if (pos := pos) hc ha hb pins s σ H { D with nx := J } I h) fun f s1 q => ?_
  cases f with
  | next => obtain ⟨σ', H', I', q⟩ := q; exact ⟨σ', H', I', hJ _ _ q⟩
  | brk => exact q
  | cont => exact q
  | ret v => exact q
section
variable {js : List Nat} {te : TE} {σ : St} {F : Addr → Hp → Prop} {H : Hp}
end
end L2
set_option maxRecDepth 100000
namespace L2
open PySem PySem.Spec PyProof.Rows
section
variable {X : Cx} {es : List Expr} {pos : Pos} {t : TA}
def NewQ (H : Hp) (o : HO) (Q : VK) : Prop := ∀ p H2, Same H H2 → H p = none → H2 p = some o → Q (.ref p) H2
theorem NewQ.at {H : Hp} {o : HO} {Q : VK} (h : NewQ H o Q) {p : Addr} (hp : H p = none) : Q (.ref p) (upd H p o) := h p _ (same_upd (Same.refl _) hp) hp upd_same
def tTupS (t : TA) : TE := fun σ H Q => t σ H fun xs H1 => xs.length ≤ sizeLine ∧ NewQ H1 (.tup xs) Q
def tLstS (t : TA) : TE := fun σ H Q => t σ H fun xs H1 => xs.length ≤ sizeLine ∧ NewQ H1 (.lst xs) Q
theorem pe_tupS {x1} (h : PA X es t) : PE X (.Tuple es x1 pos) (tTupS t) := by
  intro pins s σ H Q I hq
  refine wpAny_Tuple_spliced (thn (h pos pins s σ H _ I hq) fun us s1 ⟨xs, H1, I1, r, z, q⟩ => ⟨by rw [← r.length]; exact z, ?_⟩)
  have hf : H1 s1.heap.objs.size = none := I1.hok.fresh (Nat.le_refl _)
  refine ⟨.ref s1.heap.objs.size, upd H1 s1.heap.objs.size (.tup xs), I1.laid (t' := s1.toks) (fun b u e => Heap.get?_push_of_some _ e) (Nat.le_refl _) ?_, rfl, q.at hf⟩
  exact ⟨z, us, r, ⟨_, Heap.get?_push_size _ rfl, rfl, _, rfl⟩⟩
theorem pe_lstS (h : PA X es t) : PE X (.List es pos) (tLstS t) := by
  intro pins s σ H Q I hq
  refine wpAny_List_spliced (thn (h pos pins s σ H _ I hq) fun us s1 ⟨xs, H1, I1, r, z, q⟩ => ⟨by rw [← r.length]; exact z, ?_⟩)
  have hf : H1 s1.heap.objs.size = none := I1.hok.fresh (Nat.le_refl _)
  refine ⟨.ref s1.heap.objs.size, upd H1 s1.heap.objs.size (.lst xs), I1.laid (t' := s1.toks) (fun b u e => Heap.get?_push_of_some _ e) (Nat.le_refl _) ?_, rfl, q.at hf⟩
  exact ⟨z, us, 0, r, Heap.get?_push_size _ rfl⟩
theorem OpR.imp {f : Value → Value → Sem Value} {r r' : R2} (h : OpR X f r) (k : ∀ x y H Q, r' x y H Q → r x y H Q) : OpR X f r' := fun pins s σ H x y v u Q I rx ry q => h pins s σ H x y v u Q I rx ry (k _ _ _ _ q)
theorem SlR.imp {r r' : V → Option Int → Option Int → Hp → VK → Prop} (h : SlR X r) (k : ∀ x l u H Q, r' x l u H Q → r x l u H Q) : SlR X r' := fun pins s σ H x v vl vu lo hi sl Q I rx hs pl pu q => h pins s σ H x v vl vu lo hi sl Q I rx hs pl pu (k _ _ _ _ _ q)
theorem CallR.imp {f : Value} {r r' : List V → Hp → VK → Prop} (h : CallR X f r) (k : ∀ xs H Q, r' xs H Q → r xs H Q) : CallR X f r' := fun pins s σ H xs us Q I rx q => h pins s σ H xs us Q I rx (k _ _ _ q)
def rCatS : R2 := fun x y H Q => ∃ l b xs zs, x = .ref l ∧ y = .ref b ∧ H l = some (.lst xs) ∧ H b = some (.lst zs) ∧ xs.length + zs.length ≤ sizeLine ∧ NewQ H (.lst (xs ++ zs)) Q
theorem op_catS : OpR X (binaryOp .Add) rCatS := op_cat.imp fun _ _ _ _ ⟨l, b, xs, zs, h1, h2, h3, h4, h5, q⟩ => ⟨l, b, xs, zs, h1, h2, h3, h4, h5, fun _ hp => q.at hp⟩
def rSlLS (K : PySem.W.Frag) : V → Option Int → Option Int → Hp → VK → Prop := fun x lo hi H Q => ∃ a xs, x = .ref a ∧ SqL K H a xs ∧ NewQ H (.lst (cutV xs lo hi)) Q
theorem sllS (K : PySem.W.Frag) (h : X.K = K := by rfl) : SlR X (rSlLS K) := by
  subst h
  exact sl_list.imp fun _ _ _ _ _ ⟨a, xs, h1, h2, q⟩ => ⟨a, xs, h1, h2, fun _ hp => q.at hp⟩
theorem listS (K : PySem.W.Frag) (h : X.K = K := by rfl) : CallR X (.type "list") (fun xs H Q => ∃ p ys, xs = [.ref p] ∧ (SqL K H p ys ∨ SqT K H p ys) ∧ NewQ H (.lst ys) Q) :=
  (listK K h).imp fun _ _ _ ⟨p, ys, h1, h2, q⟩ => ⟨p, ys, h1, h2, fun _ hp => q.at hp⟩
end
theorem ints_ls {K : PySem.W.Frag} {H : Hp} {a : Addr} {r : List Int} (h : H a = some (.lst (r.map V.int))) : isLs K isI H (.ref a) r := ⟨a, _, rfl, SqL.of h, paired_ints r⟩
theorem Rw.ls {K : PySem.W.Frag} {H : Hp} {x : V} {r : List Int} (h : Rw H x r) : isLs K isI H x r := by
  obtain ⟨a, rfl, h⟩ := h
  exact ints_ls h
theorem Tb.ls {K : PySem.W.Frag} {H : Hp} {x : V} {t : List (List Int)} (h : Tb H x t) : isLs K (isLs K isI) H x t := by
  obtain ⟨a, xs, rfl, h, hp⟩ := h
  exact ⟨a, xs, rfl, SqL.of h, Paired.mapP hp fun _ _ z => z.ls⟩
def hide (l : Addr) (H : Hp) : Hp := fun b => if b = l then none else H b
theorem hide_ne {l b : Addr} {H : Hp} (h : b ≠ l) : hide l H b = H b := if_neg h
theorem hide_new {l b : Addr} {H H2 : Hp} {o : HO} (hl : H l ≠ none) (hb : H b = none) (h : H2 b = some o) : hide l H2 b = some o := by
  rw [hide_ne (fun z => hl (by rw [← z]; exact hb))]; exact h
theorem RwN.hide {l : Addr} {H H' : Hp} {x : V} {r : List Int} (hl : H l ≠ none) (h : RwN H H' x r) : Rw (L2.hide l H') x r := let ⟨a, q1, q2, q3⟩ := h; ⟨a, q1, hide_new hl q2 q3⟩
theorem TbN.hide {l a : Addr} {H H' : Hp} {t : List (List Int)} (hl : H l ≠ none) (h : TbN H H' a t) : Tb (L2.hide l H') (.ref a) t := by
  obtain ⟨h0, xs, h1, h2⟩ := h
  exact ⟨a, xs, rfl, hide_new hl h0 h1, Paired.mapP h2 fun _ _ z => z.hide hl⟩
section
variable {js : List Nat} {te : TE} {σ : St} {F : Addr → Hp → Prop} {H : Hp}
end
end L2
set_option maxRecDepth 100000
namespace L2
open PySem PySem.Spec PyProof.Rows
theorem cut_take (xs : List V) (k : Nat) : cutV xs none (some (k : Int)) = xs.take k := by
  unfold cutV
  rw [HT.sIx_none, HT.sIx_nat, List.drop_zero, Nat.sub_zero]
  rw [List.take_eq_take_iff]
  omega
theorem cut_drop (xs : List V) (k : Nat) : cutV xs (some (k : Int)) none = xs.drop k := by
  unfold cutV
  rw [HT.sIx_none, HT.sIx_nat]
  rw [List.take_of_length_le (by rw [List.length_drop]; omega)]
  by_cases h : k ≤ xs.length
  · rw [Nat.min_eq_left h]
  · rw [Nat.min_eq_right (by omega), List.drop_eq_nil_of_le (Nat.le_refl _), List.drop_eq_nil_of_le (by omega)]
theorem iteNN {c A B : Prop} [Decidable c] (hc : ¬ c) (h : A) : if (!decide c) = true then A else B := by
  rw [decide_eq_false hc]
  exact iteT h
section
variable {js : List Nat} {te : TE} {σ : St} {F : Addr → Hp → Prop} {H : Hp}
end
end L2
set_option maxRecDepth 100000
namespace L2
open PySem
def toldC (M : Model) (Γ : Ctx) (p : Pos) (k : Result → Sem Fin) (h : Option Value) (g : Bool) (l : List Value) (e : End) (s' : Shared) (s1 : Shared) : End → Prop
  | .ret r => Runs M Γ p (k r) [] s1 e s'
  | .susp v g0 l0 k0 c0 p0 fs => e = .susp v g0 l0 k0 c0 p0 (fs ++ [.ret k h g l Γ.code p []]) ∧ s' = s1
def toldR (M : Model) (Γ : Ctx) (r : Result) (fs : List Frame) (e : End) (s' : Shared) (s1 : Shared) : Frame → Prop
  | .ret k _ _ _ c1 p1 _ => Runs M (Γ.goto c1) p1 (k r) fs s1 e s'
  | .gen g k _ c1 p1 => Runs M (Γ.goto c1) p1 (k (End.ret r).result) fs (s1.setGen g .finished) e s'
def toldF (M : Model) (Γ : Ctx) (F : Frame) (fs : List Frame) (e : End) (s' : Shared) (s1 : Shared) : End → Prop
  | .ret r => toldR M Γ r fs e s' s1 F
  | .susp v g0 l0 k0 c0 p0 fs0 => ∀ o, splitAtGen (F :: fs) = o → match o with
    | none => e = .susp v g0 l0 k0 c0 p0 (fs0 ++ F :: fs) ∧ s' = s1
    | some (pre, (g, k, c1, p1), rest) => Runs M (Γ.goto c1) p1 (k (.yielded v)) rest (s1.setGen g (End.susp v g0 l0 k0 c0 p0 (fs0 ++ pre)).genState) e s'
def toldT (M : Model) (Γ : Ctx) (p : Pos) (s : Shared) (e : End) (s' : Shared) : Sem Fin → Prop
  | .pure (.done f) => e = .ret (.ok f) ∧ s' = s
  | .pure (.again c) => Runs M (Γ.goto c) p (M.den c) [] s e s'
  | .raise x => e = .ret (.error x) ∧ s' = s
  | .rule _ k => Runs M Γ p (k ()) [] s e s'
  | .at p' k => Runs M Γ p' (k ()) [] s e s'
  | .load a _ k => ∀ o, s.heap.get? a = some o → Runs M Γ p (k o) [] s e s'
  | .update a _ f k => Runs M Γ p (k ()) [] { s with heap := s.heap.update a f } e s'
  | .loadIfAlive a k => Runs M Γ p (k (s.heap.get? a)) [] s e s'
  | .point _ k => Runs M Γ p (k ()) [] s e s'
  | .alloc o k => Runs M Γ p (k s.heap.objs.size) [] { s with heap := s.heap.push o } e s'
  | .fresh k => Runs M Γ p (k s.toks) [] { s with toks := s.toks + 1 } e s'
  | .ask k => Runs M Γ p (k ⟨M.prog, M.w.params⟩) [] s e s'
  | .choose src n k => Runs M Γ p (k (M.w.draws src (s.drawn.get src) % n)) [] { s with drawn := s.drawn.bump src } e s'
  | .os q _ k => Runs M Γ p (k (Os.step s.os q).2) [] { s with os := (Os.step s.os q).1 } e s'
  | .handled own k => Runs M Γ p (k (if own then Γ.own else Γ.handled)) [] s e s'
  | .genState g k => ∀ st, s.gens[g]? = some st → Runs M Γ p (k st.seen) [] s e s'
  | .stack k => Runs M Γ p (k ((Γ.code, p) :: Γ.below)) [] s e s'
  | .thread k => Runs M Γ p (k 0) [] s e s'
  | .newGen c k => Runs M Γ p (k s.gens.size) [] { s with gens := s.gens.push (.fresh c) } e s'
  | .call c h g l k => ∃ E s1, Runs M (Γ.enter c h p) p (M.den c) [] s E s1 ∧ toldC M Γ p k h g l e s' s1 E
  | .yield v g l k => e = .susp v g l k Γ.code p [] ∧ s' = s
  | .resume g r _ k => ∃ res s1, Wakes M Γ p g r s res s1 ∧ Runs M Γ p (k res) [] s1 e s'
  | _ => True
def told (M : Model) (Γ : Ctx) (p : Pos) (t : Sem Fin) (s : Shared) (e : End) (s' : Shared) : List Frame → Prop
  | [] => toldT M Γ p s e s' t
  | F :: fs => ∃ E s1, Runs M (Γ.over (F :: fs)) p t [] s E s1 ∧ toldF M Γ F fs e s' s1 E
def toldW (M : Model) (Γ : Ctx) (p : Pos) (g : Nat) (s : Shared) (res : GenResult) (s' : Shared) (c : Code) : Resume → Prop
  | .send .none => ∃ e₁ s₁, Runs M (Γ.wake c p) p (M.den c) [] (s.setGen g .running) e₁ s₁ ∧ e₁.quiet = true ∧ res = e₁.result ∧ s' = s₁.setGen g e₁.genState
  | .send _ => res = .justStarted ∧ s' = s
  | .throw x => res = .raised x ∧ s' = s.setGen g .finished
def toldG (M : Model) (Γ : Ctx) (p : Pos) (g : Nat) (r : Resume) (s : Shared) (res : GenResult) (s' : Shared) : GenState → Prop
  | .fresh c => toldW M Γ p g s res s' c r
  | .suspended k₀ _ c₀ p₀ fs _ => ∃ e₁ s₁, Runs M (Γ.wake c₀ p) p₀ (k₀ r) fs (s.setGen g .running) e₁ s₁ ∧ e₁.quiet = true ∧ res = e₁.result ∧ s' = s₁.setGen g e₁.genState
  | .running => res = .running ∧ s' = s
  | .finished => res = .finished ∧ s' = s
theorem wakes_iff {M : Model} {Γ : Ctx} {p : Pos} {g : Nat} {r : Resume} {s : Shared} {res : GenResult} {s' : Shared} {st : GenState} (h : s.gens[g]? = some st) : Wakes M Γ p g r s res s' ↔ toldG M Γ p g r s res s' st := by
  unfold Wakes
  rw [h]
  cases st <;> exact Iff.rfl
theorem wakes_at {M : Model} {Γ : Ctx} {p : Pos} {g : Nat} {r : Resume} {s : Shared} {res : GenResult} {s' : Shared} {st : GenState} (h : s.gens[g]? = some st) (x : Wakes M Γ p g r s res s') : toldG M Γ p g r s res s' st := (wakes_iff h).1 x
theorem at_wakes {M : Model} {Γ : Ctx} {p : Pos} {g : Nat} {r : Resume} {s : Shared} {res : GenResult} {s' : Shared} {st : GenState} (h : s.gens[g]? = some st) (x : toldG M Γ p g r s res s' st) : Wakes M Γ p g r s res s' := (wakes_iff h).2 x
theorem started_at {M : Model} {Γ : Ctx} {p : Pos} {g : Nat} {s : Shared} {res : GenResult} {s' : Shared} {c : Code} {v : Value} (hv : v ≠ .none) : toldW M Γ p g s res s' c (.send v) ↔ (res = .justStarted ∧ s' = s) := by
  unfold toldW
  split
  · next h => cases h; exact absurd rfl hv
  · exact Iff.rfl
  · next h => cases h
theorem runs_told {M : Model} {Γ : Ctx} {p : Pos} {t : Sem Fin} {fs : List Frame} {s : Shared} {e : End} {s' : Shared} (h : Runs M Γ p t fs s e s') : told M Γ p t s e s' fs := by
  cases h with
  | done => exact ⟨rfl, rfl⟩
  | raise => exact ⟨rfl, rfl⟩
  | again _ b => exact b
  | rule b => exact b
  | «at» b => exact b
  | load g b => exact fun o h => Option.some.inj (g.symm.trans h) ▸ b
  | update _ b => exact b
  | loadIfAlive b => exact b
  | point b => exact b
  | alloc b => exact b
  | fresh b => exact b
  | ask b => exact b
  | choose _ b => exact b
  | os b => exact b
  | handled b => exact b
  | genState g b => exact fun o h => Option.some.inj (g.symm.trans h) ▸ b
  | stack b => exact b
  | thread b => exact b
  | newGen b => exact b
  | call a b => exact ⟨_, _, a, b⟩
  | callSusp a => exact ⟨_, _, a, rfl, rfl⟩
  | yield => exact ⟨rfl, rfl⟩
  | resumeFresh g a q b => exact ⟨_, _, at_wakes g ⟨_, _, a, q, rfl, rfl⟩, b⟩
  | resumeSuspended g a q b => exact ⟨_, _, at_wakes g ⟨_, _, a, q, rfl, rfl⟩, b⟩
  | resumeJustStarted g nv b => exact ⟨_, _, at_wakes g ((started_at nv).2 ⟨rfl, rfl⟩), b⟩
  | resumeThrowFresh g b => exact ⟨_, _, at_wakes g ⟨rfl, rfl⟩, b⟩
  | resumeRunning g b => exact ⟨_, _, at_wakes g ⟨rfl, rfl⟩, b⟩
  | resumeFinished g b => exact ⟨_, _, at_wakes g ⟨rfl, rfl⟩, b⟩
  | segRet a b => exact ⟨_, _, a, b⟩
  | segGen a b => exact ⟨_, _, a, b⟩
  | segSuspOut n a => exact ⟨_, _, a, fun o h => by rw [n] at h; subst h; exact ⟨rfl, rfl⟩⟩
  | segSuspGen n a _ b => exact ⟨_, _, a, fun o h => by rw [n] at h; subst h; exact b⟩
theorem runs_one {M : Model} {Γ : Ctx} {p : Pos} {t : Sem Fin} {fs : List Frame} {s : Shared} {e : End} {s' : Shared} (h1 : Runs M Γ p t fs s e s') : ∀ {e2 : End} {s2 : Shared}, Runs M Γ p t fs s e2 s2 → e = e2 ∧ s' = s2 := by
  induction h1 with
  | done => exact fun h2 => ⟨(runs_told h2).1.symm, (runs_told h2).2.symm⟩
  | raise => exact fun h2 => ⟨(runs_told h2).1.symm, (runs_told h2).2.symm⟩
  | again _ _ ih => exact fun h2 => ih (runs_told h2)
  | rule _ ih => exact fun h2 => ih (runs_told h2)
  | «at» _ ih => exact fun h2 => ih (runs_told h2)
  | load g _ ih => exact fun h2 => ih (runs_told h2 _ g)
  | update _ _ ih => exact fun h2 => ih (runs_told h2)
  | loadIfAlive _ ih => exact fun h2 => ih (runs_told h2)
  | point _ ih => exact fun h2 => ih (runs_told h2)
  | alloc _ ih => exact fun h2 => ih (runs_told h2)
  | fresh _ ih => exact fun h2 => ih (runs_told h2)
  | ask _ ih => exact fun h2 => ih (runs_told h2)
  | choose _ _ ih => exact fun h2 => ih (runs_told h2)
  | os _ ih => exact fun h2 => ih (runs_told h2)
  | handled _ ih => exact fun h2 => ih (runs_told h2)
  | genState g _ ih => exact fun h2 => ih (runs_told h2 _ g)
  | stack _ ih => exact fun h2 => ih (runs_told h2)
  | thread _ ih => exact fun h2 => ih (runs_told h2)
  | newGen _ ih => exact fun h2 => ih (runs_told h2)
  | call _ _ ih1 ih2 =>
    intro e2 s2 h2
    obtain ⟨E, s1, a, b⟩ := runs_told h2
    obtain ⟨rfl, rfl⟩ := ih1 a
    exact ih2 b
  | callSusp _ ih1 =>
    intro e2 s2 h2
    obtain ⟨E, s1, a, b⟩ := runs_told h2
    obtain ⟨rfl, rfl⟩ := ih1 a
    exact ⟨b.1.symm, b.2.symm⟩
  | yield => exact fun h2 => ⟨(runs_told h2).1.symm, (runs_told h2).2.symm⟩
  | resumeFresh g _ _ _ ih1 ih2 =>
    intro e2 s2 h2
    obtain ⟨res, s1, w, b⟩ := runs_told h2
    obtain ⟨E, t1, a, _, rfl, rfl⟩ := wakes_at g w
    obtain ⟨rfl, rfl⟩ := ih1 a
    exact ih2 b
  | resumeSuspended g _ _ _ ih1 ih2 =>
    intro e2 s2 h2
    obtain ⟨res, s1, w, b⟩ := runs_told h2
    obtain ⟨E, t1, a, _, rfl, rfl⟩ := wakes_at g w
    obtain ⟨rfl, rfl⟩ := ih1 a
    exact ih2 b
  | resumeJustStarted g nv _ ih =>
    intro e2 s2 h2
    obtain ⟨res, s1, w, b⟩ := runs_told h2
    obtain ⟨rfl, rfl⟩ := (started_at nv).1 (wakes_at g w)
    exact ih b
  | resumeThrowFresh g _ ih =>
    intro e2 s2 h2
    obtain ⟨res, s1, w, b⟩ := runs_told h2
    obtain ⟨rfl, rfl⟩ := wakes_at g w
    exact ih b
  | resumeRunning g _ ih =>
    intro e2 s2 h2
    obtain ⟨res, s1, w, b⟩ := runs_told h2
    obtain ⟨rfl, rfl⟩ := wakes_at g w
    exact ih b
  | resumeFinished g _ ih =>
    intro e2 s2 h2
    obtain ⟨res, s1, w, b⟩ := runs_told h2
    obtain ⟨rfl, rfl⟩ := wakes_at g w
    exact ih b
  | segRet _ _ ih1 ih2 =>
    intro e2 s2 h2
    obtain ⟨E, s1, a, b⟩ := runs_told h2
    obtain ⟨rfl, rfl⟩ := ih1 a
    exact ih2 b
  | segGen _ _ ih1 ih2 =>
    intro e2 s2 h2
    obtain ⟨E, s1, a, b⟩ := runs_told h2
    obtain ⟨rfl, rfl⟩ := ih1 a
    exact ih2 b
  | segSuspOut n _ ih1 =>
    intro e2 s2 h2
    obtain ⟨E, s1, a, b⟩ := runs_told h2
    obtain ⟨rfl, rfl⟩ := ih1 a
    exact ⟨(b _ n).1.symm, (b _ n).2.symm⟩
  | segSuspGen n _ _ _ ih1 ih2 =>
    intro e2 s2 h2
    obtain ⟨E, s1, a, b⟩ := runs_told h2
    obtain ⟨rfl, rfl⟩ := ih1 a
    exact ih2 (b _ n)
theorem wakes_one {M : Model} {Γ : Ctx} {p : Pos} {g : Nat} {r : Resume} {s : Shared} {a b : GenResult} {s1 s2 : Shared} (h1 : Wakes M Γ p g r s a s1) (h2 : Wakes M Γ p g r s b s2) : a = b ∧ s1 = s2 := by
  unfold Wakes at h1 h2
  split at h1
  · exact h1.elim
  · next c hc =>
    rw [hc] at h2
    cases r with
    | send v =>
      by_cases hv : v = .none
      · subst hv
        obtain ⟨e1, t1, r1, _, rfl, rfl⟩ := h1
        obtain ⟨e2, t2, r2, _, rfl, rfl⟩ := h2
        obtain ⟨x, y⟩ := runs_one r1 r2
        subst x y
        exact ⟨rfl, rfl⟩
      · cases v <;> first | exact absurd rfl hv | (obtain ⟨rfl, rfl⟩ := h1; obtain ⟨rfl, rfl⟩ := h2; exact ⟨rfl, rfl⟩)
    | throw x =>
      obtain ⟨rfl, rfl⟩ := h1
      obtain ⟨rfl, rfl⟩ := h2
      exact ⟨rfl, rfl⟩
  · next k0 l0 c0 p0 fs cl hc =>
    rw [hc] at h2
    obtain ⟨e1, t1, r1, _, rfl, rfl⟩ := h1
    obtain ⟨e2, t2, r2, _, rfl, rfl⟩ := h2
    obtain ⟨x, y⟩ := runs_one r1 r2
    subst x y
    exact ⟨rfl, rfl⟩
  · next hc =>
    rw [hc] at h2
    obtain ⟨rfl, rfl⟩ := h1
    obtain ⟨rfl, rfl⟩ := h2
    exact ⟨rfl, rfl⟩
  · next hc =>
    rw [hc] at h2
    obtain ⟨rfl, rfl⟩ := h1
    obtain ⟨rfl, rfl⟩ := h2
    exact ⟨rfl, rfl⟩
theorem wp_both {α : Type} {M : Model} {Γ : Ctx} {Q Q' : α → Pos → Shared → Prop} {E E' : Value → Pos → Shared → Prop} (t : Sem α) : ∀ {p : Pos} {s : Shared}, Sem.wp M Γ t Q E p s → Sem.wp M Γ t Q' E' p s → Sem.wp M Γ t (fun a p s => Q a p s ∧ Q' a p s) (fun e p s => E e p s ∧ E' e p s) p s := by
  induction t with
  | pure a => intro p s h1 h2; rw [Sem.wp] at *; exact ⟨h1, h2⟩
  | raise e => intro p s h1 h2; rw [Sem.wp] at *; exact ⟨h1, h2⟩
  | load a part k ih =>
    intro p s h1 h2
    rw [Sem.wp] at *
    obtain ⟨o, g, h1⟩ := h1
    obtain ⟨o2, g2, h2⟩ := h2
    rw [g] at g2
    cases g2
    exact ⟨o, g, ih o h1 h2⟩
  | update a part f k ih => intro p s h1 h2; rw [Sem.wp] at *; exact ⟨h1.1, ih () h1.2 h2.2⟩
  | choose src n k ih => intro p s h1 h2; rw [Sem.wp] at *; exact ⟨h1.1, ih _ h1.2 h2.2⟩
  | call c h g l k ih =>
    intro p s h1 h2
    rw [Sem.wp] at *
    obtain ⟨r, s1, r1, h1⟩ := h1
    obtain ⟨r', s1', r2, h2⟩ := h2
    obtain ⟨x, y⟩ := runs_one r1 r2
    cases x
    cases y
    exact ⟨r, s1, r1, ih r h1 h2⟩
  | genState g k ih =>
    intro p s h1 h2
    rw [Sem.wp] at *
    obtain ⟨o, g, h1⟩ := h1
    obtain ⟨o2, g2, h2⟩ := h2
    rw [g] at g2
    cases g2
    exact ⟨o, g, ih _ h1 h2⟩
  | resume g r l k ih =>
    intro p s h1 h2
    rw [Sem.wp] at *
    obtain ⟨r, s1, r1, h1⟩ := h1
    obtain ⟨r', s1', r2, h2⟩ := h2
    obtain ⟨x, y⟩ := wakes_one r1 r2
    cases x
    cases y
    exact ⟨r, s1, r1, ih r h1 h2⟩
  | _ =>
    intro p s h1 h2
    rw [Sem.wp] at *
    first
      | exact h1.elim
      | (rename_i ih; exact ih _ h1 h2)
theorem any_both {α : Type} {M : Model} {A : Around} {t : Sem α} {Q Q' : α → Shared → Prop} {E E' : Value → Shared → Prop} {s : Shared} (h1 : wpAny M A t Q E s) (h2 : wpAny M A t Q' E' s) : wpAny M A t (fun a s => Q a s ∧ Q' a s) (fun e s => E e s ∧ E' e s) s :=
  fun Γ p hΓ => wp_both t (h1 Γ p hΓ) (h2 Γ p hΓ)
end L2
set_option maxRecDepth 100000
namespace L2
open PySem
theorem dict_fields (f : Array Value → Array Value) (o : Obj) : (Obj.mapFields f o).dict = o.dict := by
  unfold Obj.mapFields
  split <;> rfl
def DictIs (h : Heap) (e : Addr) (od : Option Addr) : Prop := ∃ oe vs, h.get? e = some oe ∧ oe.data = .fields vs ∧ oe.dict = od ∧ vs[2]? = some .none
section
variable {M : Model} {A : Around} {E : Value → Shared → Prop} {s : Shared} {base : Heap} {env : Env} {outer : List Env} {L e : Addr} {oe : Obj} {vs : Array Value}
theorem flight_dict {od : Option Addr} {T : Addr} {oT : Obj} {ts : Array Value} (he : s.heap.get? e = some oe) (hd : oe.data = .fields vs) (h1 : vs[1]? = some (.ref T)) (ne : T ≠ e) (hT : s.heap.get? T = some oT) (hdT : oT.data = .fields ts) (h3 : 3 < ts.size) (ho : oe.dict = od) (h2 : vs[2]? = some .none) :
    wpAny M A (setFlight (.ref e) none) (fun _ s' => DictIs s'.heap e od) E s := by
  unfold setFlight
  refine wpAny_bind (wpAny_field he hd h1 ?_)
  rw [if_pos (by simp)]
  refine wpAny_setField hT hdT h3 ⟨oe, vs, ?_, hd, ho, h2⟩
  rw [Heap.get?_update_other _ _ ne]
  exact he
theorem entry_dict {head : Value} {hadNext : Bool} (hfr : A.frames = some (env :: outer)) (hl : s.heap.FunFrames base (env :: outer)) (hf : env.frame = some L) (he : s.heap.get? e = some oe) (hd : oe.data = .fields vs) (hz : 1 < vs.size) (h2 : vs[2]? = some .none) :
    wpAny M A (do let a ← frameOf env; let pl ← entryPlaceOf L hadNext; let b ← EntryCells.newEntry head a .none (rawInt L) .none pl; setField (.ref e) 1 b) (fun _ s' => wpAny M A (setFlight (.ref e) none) (fun _ s2 => DictIs s2.heap e oe.dict) E s') E s := by
  have out : e ∉ (env :: outer).filterMap (·.frame) := fun hm => by
    obtain ⟨_, o, ho, nf⟩ := hl.mem hm
    rw [he] at ho
    cases ho
    exact nf vs hd
  refine wpAny_bind (wpAny_frameOf_fun hfr hl hf fun h1 k1 => wpAny_bind (wpAny_entryPlaceOf fun pl hpl => ?_))
  have he1 : h1.get? e = some oe := (k1.2.1 e out).trans he
  unfold EntryCells.newEntry newFields
  refine wpAny_bind (wpAny_newObj_type ?_ (hpl.sizeOk5 _ _ _ _ _))
  have ne : h1.objs.size ≠ e := Nat.ne_of_gt (Heap.lt_size he1)
  refine wpAny_setField (Heap.get?_push_of_some _ he1) hd hz ?_
  have hd2 := Obj.data_mapFields hd (·.setIfInBounds 1 (Value.ref h1.objs.size))
  refine flight_dict (Heap.get?_update_self _ (Heap.get?_push_of_some _ he1) (Obj.isFreed_of_fields hd2)) hd2 (T := h1.objs.size) (by simp [hz]) ne ((Heap.get?_update_other _ _ (Ne.symm ne)).trans (Heap.get?_push_size h1 rfl)) rfl ?_ (dict_fields _ _) (by simpa [Array.getElem?_setIfInBounds] using h2)
  simp only [List.size_toArray, List.length_append, List.length_cons, List.length_nil]
  omega
theorem first_dict (hfr : A.frames = some (env :: outer)) (hl : s.heap.FunFrames base (env :: outer)) (hf : env.frame = some L) (he : s.heap.get? e = some oe) (hd : oe.data = .fields vs) (h1 : vs[1]? = some .none) (h2 : vs[2]? = some .none) :
    wpAny M A (leaving env (.ref e)) (fun _ s' => DictIs s'.heap e oe.dict) E s := by
  unfold leaving noteFrame
  simp only [hf]
  refine wpAny_bind (wpAny_bind (wpAny_field he hd h1 ?_))
  rw [if_neg (by decide)]
  exact entry_dict hfr hl hf he hd (Array.getElem?_eq_some_iff.mp h1).1 h2
theorem next_dict {cls a0 : Value} {od : Option Addr} (hfr : A.frames = some (env :: outer)) (hl : s.heap.FunFrames base (env :: outer)) (hf : env.frame = some L) (ht : s.heap.TracedW base e cls a0) (ho : DictIs s.heap e od) (hen : base.get? e = none) :
    wpAny M A (leaving env (.ref e)) (fun _ s' => DictIs s'.heap e od) E s := by
  obtain ⟨oe, vs, T, oT, ts, he, _, hd, h1, hnT, ne, hT, hdT, h3⟩ := ht
  obtain ⟨oe2, vs2, he2, hd2', ho, h2⟩ := ho
  rw [he] at he2
  cases he2
  rw [hd] at hd2'
  cases hd2'
  unfold leaving noteFrame
  simp only [hf]
  refine wpAny_bind (wpAny_bind (wpAny_field he hd h1 ?_))
  rw [if_pos (by simp)]
  refine wpAny_bind (wpAny_field hT hdT h3 ?_)
  rw [if_neg (by simp [rawInt])]
  refine wpAny_bind (wpAny_setField hT hdT (Array.getElem?_eq_some_iff.mp h3).1 ?_)
  have oth : ∀ b, b ≠ T → (s.heap.update T (Obj.mapFields (·.setIfInBounds 3 Value.none))).get? b = s.heap.get? b := fun b hb => Heap.get?_update_other _ _ (Ne.symm hb)
  have := entry_dict (M := M) (A := A) (E := E) (s := { s with heap := s.heap.update T (Obj.mapFields (·.setIfInBounds 3 Value.none)) }) (base := base) (head := .ref T) (hadNext := true) hfr (hl.of_keeps fun b o hb nf => ⟨o, (oth b (fun z => by rw [z, hT] at hb; cases hb; exact nf ts hdT)).trans hb, rfl⟩) hf ((oth e (Ne.symm ne)).trans he) hd (Array.getElem?_eq_some_iff.mp h1).1 h2
  rw [ho] at this
  exact this
end
end L2
set_option maxRecDepth 100000
namespace L2
open PySem PySem.Spec PyProof.Rows
def CXE (P : Program) (w : World) : CXT := fun outer H s E e s' => ∃ (ea : Addr) (cls a0 : Value) (B : Heap) (H' : Hp) (od : Option Addr), DictIs s'.heap ea od ∧ e = .ref ea ∧ s'.os = s.os ∧ AllBare s'.gens ∧ Un (frs outer) [] H H' s.heap s'.heap ∧ HOk P w H' s'.heap ∧ H' ea = none ∧ s.heap.get? ea = none ∧
  Heap.FlyingW B outer ea cls a0 s'.heap ∧ (∀ b o, s'.heap.get? b = some o → b ∉ frs outer → B.get? b = none → s.heap.get? b = none ∧ H' b = none) ∧ E cls od H'
theorem objOk_there {P : Program} {w : World} {H : Hp} {h : Heap} {a : Addr} {o : HO} (x : ObjOk P w H h a o) : ∃ ob, h.get? a = some ob := by
  cases o with
  | lst xs => obtain ⟨_, _, _, _, e⟩ := x; exact ⟨_, e⟩
  | tup xs => obtain ⟨_, _, _, ob, e, _⟩ := x; exact ⟨_, e⟩
  | dK kvs => obtain ⟨_, _, _, _, o, _, _, e, _⟩ := x; exact ⟨_, e⟩
  | dT kvs => obtain ⟨_, _, _, _, o, _, _, e, _⟩ := x; exact ⟨_, e⟩
  | set S n => obtain ⟨o, _, _, _, e, _⟩ := x; exact ⟨_, e⟩
  | ins C dx fs => obtain ⟨_, _, _, e, _⟩ := x; exact ⟨_, e⟩
  | own y => obtain ⟨_, e⟩ := x; exact ⟨_, e⟩
  | xd fs => obtain ⟨_, ⟨_, _, _, e, _⟩, _⟩ := x; exact ⟨_, e⟩
  | rng lo hi => obtain ⟨_, _, _, e⟩ := x; exact ⟨_, e⟩
  | frz ob u => obtain ⟨e, _⟩ := x; exact ⟨_, e⟩
  | tbl ps => exact ⟨_, (show h.get? a = some _ from x)⟩
  | met f y => exact ⟨_, (show h.get? a = some _ from x)⟩
  | ext φ => obtain ⟨_, ⟨_, e⟩, _⟩ := x; exact ⟨_, e⟩
structure Own (X : Cx) : Prop where
  stk : X.stack = X.env :: X.outer
  frm : X.env.frame = some X.env.locals
  exs : X.ex = []
theorem Own.frs {X : Cx} (O : Own X) : L2.frs X.stack = X.env.locals :: X.fs := by
  rw [O.stk]
  unfold L2.frs
  rw [List.filterMap_cons, O.frm]
  rfl
theorem un_leave {X : Cx} {pins : List (Addr × Obj)} {σ : St} {H : Hp} {s : Shared} {h2 B : Heap} (O : Own X) (I : Inv X pins σ H s) (hB1 : B.StaysIn s.heap) (hB2 : B.StaysIn h2) (up : s.heap.UpToSlots h2)
    (old : ∀ b o, s.heap.get? b = some o → b ∉ frs X.stack → B.get? b = none → X.s₀.heap.get? b = none ∧ H b = none) :
    Un X.fs [] X.H₀ H X.s₀.heap h2 ∧ HOk X.prog X.w H h2 ∧ ∀ b o, h2.get? b = some o → b ∉ X.fs → B.get? b = none → X.s₀.heap.get? b = none ∧ H b = none := by
  have neL : ∀ b o, X.s₀.heap.get? b = some o → b ≠ X.env.locals := fun b o e => Nat.ne_of_lt (Nat.lt_of_lt_of_le (Heap.lt_size e) I.ok.above)
  have nofr : ∀ b, b ≠ X.env.locals → b ∉ X.fs → b ∉ frs X.stack := fun b h1 h2 z => by
    rw [O.frs] at z
    rcases List.mem_cons.mp z with z | z
    · exact h1 z
    · exact h2 z
  have in1 : ∀ b o, s.heap.get? b = some o → b ∉ frs X.stack → (X.s₀.heap.get? b ≠ none ∨ H b ≠ none) → h2.get? b = some o := fun b o e hb hn => by
    cases q : B.get? b with
    | none =>
      have z := old b o e hb q
      rcases hn with hn | hn
      · exact absurd z.1 hn
      · exact absurd z.2 hn
    | some o2 =>
      have := hB1 b o2 q
      rw [e] at this
      cases this
      exact hB2 b _ q
  have slots : ∀ b o, s.heap.get? b = some o → b ∈ X.fs → ∃ sl, h2.get? b = some { o with slots := sl } := fun b o e hb => by
    obtain ⟨_, o', e', hd⟩ := I.funs.mem hb
    rw [e] at e'
    cases e'
    exact up b o e hd
  have nx : ∀ b, b ∉ X.ex := fun b => by rw [O.exs]; simp
  refine ⟨⟨fun b o e n hb hx => ?_, fun b o e n hb hx => ?_, fun b o e n hx => I.base.free b o e n (nx b), fun b o e hx => ?_, I.base.tups, I.base.frzs, I.base.tbls⟩, fun a v e => ?_, fun b o e hb hB => ⟨?_, ?_⟩⟩
  · exact in1 b o (I.base.keep b o e n hb (nx b)) (nofr b (neL b o e) hb) (.inl (by rw [e]; exact fun z => nomatch z))
  · obtain ⟨sl, e1⟩ := I.base.slot b o e n hb (nx b)
    obtain ⟨sl', e2⟩ := slots b _ e1 hb
    exact ⟨sl', e2⟩
  · obtain ⟨o', e1⟩ := I.base.there b o e (nx b)
    by_cases hb : b ∈ X.fs
    · obtain ⟨sl, e2⟩ := slots b o' e1 hb
      exact ⟨_, e2⟩
    · exact ⟨o', in1 b o' e1 (nofr b (neL b o e) hb) (.inl (by rw [e]; exact fun z => nomatch z))⟩
  · refine (I.hok a v e).stay (fun c v' hc q => in1 c v' q (fun z => ?_) (.inr ?_)) (fun _ q => q) fun _ _ q => q
    · have := I.stkFree c z
      rcases hc with rfl | hc
      · rw [e] at this; cases this
      · rw [hc] at this; cases this
    · rcases hc with rfl | hc
      · rw [e]; exact fun z => nomatch z
      · rw [hc]; exact fun z => nomatch z
  · cases q : X.s₀.heap.get? b with
    | none => rfl
    | some o' =>
      obtain ⟨o2, e2⟩ := I.base.there b o' q (nx b)
      have := (old b o2 e2 (nofr b (neL b o' q) hb) hB).1
      rw [q] at this; cases this
  · cases q : H b with
    | none => rfl
    | some v =>
      obtain ⟨o2, e2⟩ := objOk_there (I.hok b v q)
      have nf : b ∉ frs X.stack := fun z => by rw [I.stkFree b z] at q; cases q
      have := (old b o2 e2 nf hB).2
      rw [q] at this; cases this
section
variable {X : Cx} {pins : List (Addr × Obj)} {σ : St} {H : Hp} {s s' : Shared} {ea : Addr} {cls : Value} {h' : Heap} {E : XK} {E2 : Value → Shared → Prop}
theorem leave_made {vs : List Value} (O : Own X) (I : Inv X pins σ H s) (mk : Heap.MadeExcOf s.heap h' ea cls vs) (h : E cls none H) :
    wpAny (model X.prog X.w) X.A (leaving X.env (.ref ea)) (fun _ s'' => CXE X.prog X.w X.outer X.H₀ X.s₀ E (.ref ea) s'') E2 { s with heap := h' } := by
  have hin : ∀ env ∈ X.stack, ∀ b, env.frame = some b → b ∈ frs X.stack := fun env he b hb => List.mem_filterMap.mpr ⟨env, he, hb⟩
  have hl : s.heap.FunFrames (PySem.W.hideAll s.heap (frs X.stack)) X.stack := PySem.W.funFrames_hide I.stack hin
  rw [O.stk] at hl
  have hB1 : (PySem.W.hideAll s.heap (frs X.stack)).StaysIn s.heap := fun b o q => PySem.W.of_hideAll _ q
  have hH : H ea = none := by
    cases q : H ea with
    | none => rfl
    | some v =>
      obtain ⟨o, e⟩ := objOk_there (I.hok ea v q)
      rw [mk.new] at e; cases e
  obtain ⟨t, he, htn, ht⟩ := mk.there
  have hl' : h'.FunFrames (PySem.W.hideAll s.heap (frs X.stack)) (X.env :: X.outer) := by
    rw [O.stk] at *
    exact hl.of_keeps fun b o hb _ => ⟨o, mk.keeps b o hb, rfl⟩
  refine wpAny_mono (any_both (E' := E2) (wpAny_leaves_madeW (E := E2) (Q := fun _ s'' => ∃ (a0 : Value) (B : Heap) (H' : Hp), H' = H ∧ s''.os = X.s₀.os ∧ AllBare s''.gens ∧ Un (frs X.outer) [] X.H₀ H' X.s₀.heap s''.heap ∧ HOk X.prog X.w H' s''.heap ∧ H' ea = none ∧ X.s₀.heap.get? ea = none ∧
      Heap.FlyingW B X.outer ea cls a0 s''.heap ∧ (∀ b o, s''.heap.get? b = some o → b ∉ frs X.outer → B.get? b = none → X.s₀.heap.get? b = none ∧ H' b = none))
    (s := { s with heap := h' }) (base := PySem.W.hideAll s.heap (frs X.stack)) (by rw [I.ok.frames, O.stk]) O.frm hB1 (by rw [O.stk] at *; exact hl) mk fun h'' t fl tu tn up => ?_)
    (first_dict (E := E2) (s := { s with heap := h' }) (by rw [I.ok.frames, O.stk]) hl' O.frm he rfl rfl rfl)) (fun _ s'' z => ?_) (fun _ _ z => z.1)
  · have up2 : s.heap.UpToSlots h'' := (Heap.UpToSlots.of_keeps mk.keeps).trans up
    obtain ⟨u, hok, old⟩ := un_leave O I hB1 fl.1 up2 (fun b o e hb hB => by
      rw [PySem.W.hideAll_get _ e hb] at hB; cases hB)
    have hs0 : X.s₀.heap.get? ea = none := by
      cases q : X.s₀.heap.get? ea with
      | none => rfl
      | some o =>
        obtain ⟨o', e⟩ := I.base.there ea o q (by rw [O.exs]; simp)
        rw [mk.new] at e; cases e
    exact ⟨_, _, H, rfl, I.os, I.bare, u, hok, hH, hs0, fl, old⟩
  · obtain ⟨⟨a0, B, H', rfl, z⟩, hd⟩ := z
    exact ⟨ea, cls, a0, B, H', none, hd, rfl, z.1, z.2.1, z.2.2.1, z.2.2.2.1, z.2.2.2.2.1, z.2.2.2.2.2.1, z.2.2.2.2.2.2.1, z.2.2.2.2.2.2.2, h⟩
theorem leave_on {Hc : Hp} {e : Value} (O : Own X) (I : Inv X pins σ Hc s) (h : CXE X.prog X.w X.stack Hc s E e s') :
    wpAny (model X.prog X.w) X.A (leaving X.env e) (fun _ s'' => CXE X.prog X.w X.outer X.H₀ X.s₀ E e s'') E2 s' := by
  obtain ⟨ea, cls, a0, B, H', od, di, rfl, os, bare, u, hok, hea, hsc, fl, old, hE⟩ := h
  have I1 : Inv X pins σ H' s' := I.call' os u hok bare fun b z => absurd z (by simp)
  have fl' := fl
  rw [O.stk] at fl'
  have hfr : X.A.frames = some (X.env :: X.outer) := by rw [I.ok.frames, O.stk]
  refine wpAny_mono (any_both (E' := E2) (wpAny_leaves_onW (E := E2) (Q := fun _ s'' => s''.os = X.s₀.os ∧ AllBare s''.gens ∧ Un (frs X.outer) [] X.H₀ H' X.s₀.heap s''.heap ∧ HOk X.prog X.w H' s''.heap ∧
      Heap.FlyingW B X.outer ea cls a0 s''.heap ∧ (∀ b o, s''.heap.get? b = some o → b ∉ frs X.outer → B.get? b = none → X.s₀.heap.get? b = none ∧ H' b = none))
    hfr O.frm fl' fun h'' fl2 up => ?_) (next_dict (E := E2) hfr fl'.2.2.1 O.frm fl'.2.2.2 di fl'.2.1)) (fun _ s'' z => ?_) (fun _ _ z => z.1)
  · obtain ⟨u2, hok2, old2⟩ := un_leave O I1 fl.1 fl2.1 up (fun b o e hb hB => by
      obtain ⟨z1, z2⟩ := old b o e hb hB
      refine ⟨?_, z2⟩
      cases q : X.s₀.heap.get? b with
      | none => rfl
      | some o' =>
        obtain ⟨o2, e2⟩ := I.base.there b o' q (by rw [O.exs]; simp)
        rw [z1] at e2; cases e2)
    exact ⟨I1.os, I1.bare, u2, hok2, fl2, old2⟩
  · obtain ⟨z, hdi⟩ := z
    have hs0 : X.s₀.heap.get? ea = none := by
      cases q : X.s₀.heap.get? ea with
      | none => rfl
      | some o =>
        obtain ⟨o', e⟩ := I.base.there ea o q (by rw [O.exs]; simp)
        rw [hsc] at e; cases e
    exact ⟨ea, cls, a0, B, H', od, hdi, rfl, z.1, z.2.1, z.2.2.1, z.2.2.2.1, hea, hs0, z.2.2.2.2.1, z.2.2.2.2.2, hE⟩
end
end L2
set_option maxRecDepth 100000
namespace L2
open PySem PySem.Spec PyProof.Rows
def ThrOn (X : Cx) (W : St → XK) : Prop := ∀ (pins : List (Addr × Obj)) (σ : St) (H : Hp) (s : Shared) (e : Value) (s' : Shared), Inv X pins σ H s → CXE X.prog X.w X.stack H s (W σ) e s' → X.xe e s'
def ThrMade (X : Cx) (W : St → XK) : Prop := ∀ (pins : List (Addr × Obj)) (σ : St) (H : Hp) (s : Shared) (h' : Heap) (ea : Addr) (cls : Value) (vs : List Value), Inv X pins σ H s → Heap.MadeExcOf s.heap h' ea cls vs → W σ cls none H → X.xe (.ref ea) { s with heap := h' }
section
variable {P : Program} {w : World} {K : PySem.W.Frag} {mg : Str → Option Value} {base : Heap} {N : List Str} {qual : Str} {scope : Scope} {f : Addr} {cd : Value} {A : Around} {outer : List Env} {s : Shared} {H : Hp} {E : XK}
theorem own_def {CX : CXT} : Own (cxOf CX P w K mg base N qual scope f cd A outer s H E) := ⟨rfl, rfl, rfl⟩
theorem on_def : ThrOn (cxOf (CXE P w) P w K mg base N qual scope f cd A outer s H E) (fun _ => E) := fun pins σ Hc sc e s' I h => leave_on own_def I h
theorem made_def : ThrMade (cxOf (CXE P w) P w K mg base N qual scope f cd A outer s H E) (fun _ => E) := fun pins σ Hc sc h' ea cls vs I mk h => leave_made own_def I mk h
theorem Fun.okX {x : Str} {st : Stmt} {fd : FuncData} {ps : List Str} {k : Nat} {sp : Sp} (F : Fun K x qual st f fd) (S : FnScope N ps (defScope st)) (len : ∀ vs H Q E, sp vs H Q E → vs.length = ps.length)
    (hbody : ∀ (cdv : Value) (A : Around) (outer : List Env) (s : Shared) (H : Hp) (vs : List V) (Q : VK) (E : XK), Room k (A.deeper (envOfC qual (defScope st) s.heap.objs.size f cdv)) → sp vs H Q E →
      ∃ t, PSs (cxOf (CXE P w) P w K mg base N qual (defScope st) f cdv A outer s H E) (defBody st) t ∧ t { nx := fun _ H' => Q .non H', rt := Q } (start N vs) H) : FnOk P w K mg base (CXE P w) (k + 1) f fd ps sp := by
  obtain ⟨oc, od, kV, doc, pm, an, cdv, ct, osl, rfl, lk, hcd⟩ := F.ex
  exact fn_of lk hcd S len fun A outer s H vs Q E hr hsp => hbody cdv A outer s H vs Q E hr hsp
end
theorem PS.nox {X : Cx} {st : Stmt} {t : TS} (h : PS X.nox st t) : PS X st t := fun pins s σ H D I hw =>
  wpAny_mono (h pins s σ H D (I.wish _) hw) (fun _ _ q => q.unwish) fun _ _ z => False.elim z
def DmX (P : Program) (w : World) (K : PySem.W.Frag) (mg : Str → Option Value) (base : Heap) (k : Nat) (C : Addr) (m : Str) (ps : List Str) (sp : Sp) : Prop :=
  ∃ f fd, Cls K C ∧ Meth K C m f ∧ Binds K fd ps [] ∧ FnOk P w K mg base (CXE P w) k f fd ps sp
section
variable {X : Cx} {k : Nat} {C : Addr} {ps : List Str} {sp : Sp} {x m : Str} {p pos apos : Pos} {e o : Expr} {es : List Expr} {ta : TE} {t : TA} {W : St → XK} {f : Addr} {fd : FuncData}
def tMethX (C : Addr) (m : Str) (sp : Sp) (W : St → XK) (ta : TE) (t : TA) : TE := fun σ H Q => ta σ H fun x H1 => ∃ a dx fs, x = .ref a ∧ H1 a = some (.ins C dx fs) ∧ fs.lookup m = none ∧ t σ H1 fun vs H2 => sp (x :: vs) H2 Q (W σ)
theorem run_fnX {pins : List (Addr × Obj)} {σ : St} {H : Hp} {s : Shared} {Q : VK} {us : List Value} {vs : List V} (F : FnOk X.prog X.w X.K X.mg X.base (CXE X.prog X.w) k f fd ps sp) (hr : Room k X.A) (hb : Binds X.K fd ps []) (hx : ThrOn X W)
    (I : Inv X pins σ H s) (r : Vals vs us) (h : sp vs H Q (W σ)) : wpAny (model X.prog X.w) X.A (call (.ref f) us) (EP X pins σ Q) X.xe s := by
  have hl : (us ++ []).length = ps.length := by rw [List.append_nil, ← r.length]; exact F.len _ _ _ _ h
  have hb' := hb s us I.kIn hl
  rw [List.append_nil] at hb'
  refine wpAny_call (codeAny_mono (F.run X.A X.stack s H ⟨us, []⟩ us vs Q (W σ) hr I.env0 hb' r h) fun r s' hq => ?_)
  cases r with
  | error e => exact hx pins σ H s e s' I hq
  | ok fl =>
    cases fl with
    | ret u => exact I.after hq
    | next => exact False.elim hq
    | brk => exact False.elim hq
    | cont => exact False.elim hq
theorem pe_methX {pl : Sem Bool} (hx : ThrOn X W) (he : PE X o ta) (D : DmX X.prog X.w X.K X.mg X.base k C m ps sp) (hr : Room k X.A) (ha : PA X (e :: es) t)
    (hst : starEach (e :: es) X.env = (false, eval e X.env) :: starEach es X.env := by rfl) (hpl : (backTo pos (starEach es X.env)).any (·.1) = false := by rfl)
    (ht : eval (.Call (.Attribute o m apos) (e :: es) [] pos) X.env = (do
      let ov ← eval o X.env
      standAt apos.atName
      let (f, first) ← holding [ov] (getMethod ov m pl)
      callWith pos f first (backTo pos (starEach (e :: es) X.env)) (backToKw pos (keywordEach [] X.env))) := by rfl) :
    PE X (.Call (.Attribute o m apos) (e :: es) [] pos) (tMethX C m sp W ta t) := by
  obtain ⟨f, fd, cl, hm, hb, F⟩ := D
  intro pins s σ H Q I h
  refine PySem.W.methodCall_KW (pl := pl) (thn (he pins s σ H _ I h) fun u s1 ⟨x, H1, I1, rx, a, dx, fs, ex, ea, l, q⟩ => ?_) ht
  subst ex
  obtain rfl : u = Value.ref a := rx
  refine getmeth_ok I1 ea cl hm l ?_
  refine PySem.W.callWith_K (first := [.ref a]) (h₀ := X.base) I.ok.mod.kin hm.kp (thn (ha pos pins s1 σ H1 _ I1 q) fun us s2 ⟨vs, H2, I2, r, q2⟩ => ⟨I2.kIn, ?_⟩) hst hpl
  exact run_fnX (us := .ref a :: us) (vs := .ref a :: vs) F hr hb hx I2 (.cons rfl r) q2
end
abbrev mroVE : List Value := [.type "ValueError", .type "Exception", .type "BaseException", .type "object"]
theorem exc_obj {K : PySem.W.Frag} {h : Heap} {C : Addr} {bmB : List Value} {newId : String} (X : K.In h) (q : PySem.W.excIn K C bmB newId = true) :
    ∃ bm N nm q bs hdct sn sub ab col dd k0 k1 k2 k3 k5 mN, h.get? C = some (excClassObj nm q C N bs bm hdct sn sub ab col dd k0 k1 k2 k3 k5 newId) ∧ h.Ns N mN ∧ mN "__init__" = none ∧ OwnTail h bmB bm := by
  unfold PySem.W.excIn at q
  split at q
  · rename_i dd cd sl ho
    split at q
    · rename_i C' bm k0 k1 k2 k3 n k5 hm hs
      simp only [Bool.and_eq_true, beq_iff_eq, Bool.not_eq_true'] at q
      obtain ⟨⟨⟨⟨⟨rfl, rfl⟩, hdel⟩, ht⟩, hok⟩, hni⟩ := q
      obtain ⟨nm, bs, mro, ns, qn, hd, sn, sub, ab, col, del⟩ := cd
      dsimp only at hm hdel hok hni
      subst hm hdel
      have hsl : sl = #[k0, k1, k2, k3, some (.builtin n), k5] := by
        obtain ⟨l⟩ := sl
        simp only at hs
        rw [hs]
      subst hsl
      exact ⟨bm, ns, nm, qn, bs, hd, sn, sub, ab, col, dd, k0, k1, k2, k3, k5, _, X _ _ ho, .of_isNs (PySem.W.isNs_of_in X hok), PySem.W.nsMap_none_of_in X hok hni, PySem.W.tail_of_in X ht⟩
    · cases q
  · cases q
def tRaise (W : St → XK) (C : Addr) : TS := fun _ σ H => W σ (.ref C) none H
theorem ps_raise0 {X : Cx} {W : St → XK} {x : Str} {C : Addr} {np cpos pos : Pos} (hc : X.calm = true) (hw : ThrMade X W) (hg : Gl X x) (hm : X.mg x = some (.ref C)) (q : PySem.W.excIn X.K C mroVE "ValueError.__new__" = true)
    (hdb : (x == ("__debug__" : Str)) = false := by decide) : PS X (.Raise (some (.Call (.Name x np) [] [] cpos)) none pos) (tRaise W C) := by
  intro pins s σ H D I h
  obtain ⟨tl, N, nm, qn, bs, hdct, sn, sub, ab, col, dd, k0, k1, k2, k3, k5, mN, hC, hN, hni, T⟩ := exc_obj I.kIn q
  refine wpAny_Raise_call_subT (C := C) (nm := nm) (q := qn) (N := N) (bs := bs) (bm := tl) (hdct := hdct) (sn := sn) (sub := sub) (ab := ab) (col := col) (dd := dd) (k0 := k0) (k1 := k1) (k2 := k2) (k3 := k3) (k5 := k5)
    PySem.F.excBase_ValueError (mN := mN) (T.hasType PySem.F.excBase_ValueError.hasBase) (I.ok.hd hc) rfl hni (ld_glob I hg hm ⟨rfl, ?_⟩ hdb)
  exact evalArgs_empty ⟨rfl, Nat.zero_le _, hC, hN, T, fun h' e mk => hw pins σ H s h' e _ _ I mk h⟩
end L2
set_option maxRecDepth 100000
namespace L2
open PySem PyProof.Rows
section
variable {P : Program} {w : World} {A : Around} {E : Value → Shared → Prop} {s : Shared}
variable {nm q : Str} {C N fI : Addr} {bs bm tl : List Value} {hd ab : Bool} {sn : List Str} {sub us : List Value} {col : Option Bool} {dd : Option Addr} {k0 k1 k2 k3 k5 : Option Value} {B newId initId : String} {mN : Str → Option Value} {oI : Obj}
end
end L2
set_option maxRecDepth 100000
namespace L2
open PySem PySem.Spec PySem.Calls PySem.W PyProof.Rows
open PySem.Builtin PySem.Builtin.ObjectAttr
section
variable {prog : Program} {w : World} {A : Around} {s : Shared} {K : Frag} {x C : Addr} {R : Result → Shared → Prop}
end
end L2
set_option maxRecDepth 100000
namespace L2
open PySem PySem.Spec PySem.Calls PySem.W PyProof.Rows
section
variable {X : Cx} {pins : List (Addr × Obj)} {σ : St} {H : Hp} {s : Shared}
end
section
variable {M : Model} {A : Around} {E : Value → Shared → Prop} {s : Shared} {env : Env}
variable {nm q : Str} {C N : Addr} {bs bm : List Value} {hdct : Bool} {sn : List Str} {sub : List Value} {ab : Bool} {col : Option Bool} {dd : Option Addr} {k0 k1 k2 k3 k5 : Option Value} {newId : String}
end
section
variable {X : Cx} {k : Nat} {C : Addr} {ps : List Str} {sp : Sp} {x : Str} {np cpos pos : Pos} {e : Expr} {es : List Expr} {t : TA} {W : St → XK}
end
end L2
set_option maxRecDepth 100000
namespace L2
open PySem PySem.Spec PyProof.Rows
abbrev Cx.more (X : Cx) (pn : List (Addr × Obj)) : Cx := { X with pn := X.pn ++ pn }
section
variable {X : Cx} {pins pn : List (Addr × Obj)} {σ : St} {H : Hp} {s : Shared}
end
end L2
set_option maxRecDepth 100000
namespace L2
open PySem PySem.Spec PySem.Calls PySem.W PyProof.Rows
open PySem.Builtin PySem.Builtin.ObjectAttr PySem.Builtin.Getset_descriptor
section
variable {prog : Program} {w : World} {A : Around} {E : Value → Shared → Prop} {s : Shared} {K : Frag} {x D : Addr}
end
section
variable {X : Cx}
end
end L2
namespace L2
open PySem PySem.Spec PyProof.Rows
section
variable {κ : Type} [DecidableEq κ]
def valV (kvs : List (κ × V)) (k : κ) : Option V := (kvs.find? fun kv => decide (kv.1 = k)).map (·.2)
def putK (kvs : List (κ × V)) (k : κ) (v : V) : List (κ × V) :=
  if (kvs.any fun kv => decide (kv.1 = k)) = true then kvs.map (fun kv => if kv.1 = k then (kv.1, v) else kv) else kvs ++ [(k, v)]
def dropK (kvs : List (κ × V)) (k : κ) : List (κ × V) := kvs.filter fun kv => decide (kv.1 ≠ k)
theorem valV_pos {p : κ × V} {r : List (κ × V)} {k : κ} (e : p.1 = k) : valV (p :: r) k = some p.2 := by simp [valV, List.find?_cons, e]
theorem valV_neg {p : κ × V} {r : List (κ × V)} {k : κ} (e : ¬ p.1 = k) : valV (p :: r) k = valV r k := by simp [valV, List.find?_cons, e]
theorem valV_any (k : κ) : ∀ kvs : List (κ × V), (kvs.any fun kv => decide (kv.1 = k)) = (valV kvs k).isSome
  | [] => rfl
  | p :: r => by
    rw [List.any_cons]
    by_cases e : p.1 = k
    · simp only [valV_pos e, decide_eq_true e, Bool.true_or, Option.isSome_some]
    · rw [valV_neg e, decide_eq_false e, Bool.false_or]; exact valV_any k r
theorem length_putK (kvs : List (κ × V)) (k : κ) (v : V) : (putK kvs k v).length ≤ kvs.length + 1 := by
  unfold putK
  split
  · rw [List.length_map]; omega
  · rw [List.length_append, List.length_cons, List.length_nil]; omega
theorem putK_new {kvs : List (κ × V)} {k : κ} (v : V) (h : valV kvs k = none) : putK kvs k v = kvs ++ [(k, v)] := by
  unfold putK
  rw [valV_any, h]
  exact if_neg (by decide)
theorem RelO.isSome_eq {o : Option V} {u : Option Value} (r : RelO o u) : o.isSome = u.isSome := by
  cases o with
  | none => cases u with
    | none => rfl
    | some _ => exact (show False from r).elim
  | some _ => cases u with
    | none => exact (show False from r).elim
    | some _ => rfl
theorem RelO.getD {o : Option V} {u : Option Value} {d : V} {d' : Value} (r : RelO o u) (rd : RelV d d') : RelV (o.getD d) (u.getD d') := by
  cases o with
  | none => cases u with
    | none => exact rd
    | some _ => exact (show False from r).elim
  | some _ => cases u with
    | none => exact (show False from r).elim
    | some _ => exact r
theorem KV.val {kvs : List (κ × V)} {vs : List (κ × Value)} (r : KV kvs vs) (k : κ) : RelO (valV kvs k) (valueAt vs k) := by
  unfold KV at r
  induction r with
  | nil => exact True.intro
  | @cons p q ps qs h t ih =>
    obtain ⟨h1, h2⟩ := h
    by_cases e : p.1 = k
    · have e' : q.1 = k := h1.symm.trans e
      have b : valueAt (q :: qs) k = some q.2 := by simp [valueAt, List.find?_cons, e']
      rw [valV_pos e, b]; exact h2
    · have e' : ¬ q.1 = k := fun z => e (h1.trans z)
      have b : valueAt (q :: qs) k = valueAt qs k := by simp [valueAt, List.find?_cons, e']
      rw [valV_neg e, b]; exact ih
theorem KV.any {kvs : List (κ × V)} {vs : List (κ × Value)} (r : KV kvs vs) (k : κ) : (kvs.any fun kv => decide (kv.1 = k)) = vs.any fun kv => decide (kv.1 = k) := by
  unfold KV at r
  induction r with
  | nil => rfl
  | cons h t ih => rw [List.any_cons, List.any_cons, ih, h.1]
theorem KV.repl {kvs : List (κ × V)} {vs : List (κ × Value)} (r : KV kvs vs) (k : κ) {y : V} {u : Value} (ry : RelV y u) :
    KV (kvs.map fun kv => if kv.1 = k then (kv.1, y) else kv) (vs.map fun kv => if kv.1 = k then (kv.1, u) else kv) := by
  unfold KV at r ⊢
  induction r with
  | nil => exact .nil
  | @cons p q ps qs h t ih =>
    rw [List.map_cons, List.map_cons]
    refine .cons ?_ ih
    obtain ⟨h1, h2⟩ := h
    by_cases e : p.1 = k
    · rw [if_pos e, if_pos (h1.symm.trans e)]; exact ⟨h1, ry⟩
    · rw [if_neg e, if_neg (fun z => e (h1.trans z))]; exact ⟨h1, h2⟩
theorem KV.put {kvs : List (κ × V)} {vs : List (κ × Value)} (r : KV kvs vs) (k : κ) {y : V} {u : Value} (ry : RelV y u) : KV (putK kvs k y) (stored vs k u) := by
  unfold putK stored
  rw [r.any k]
  by_cases e : (vs.any fun kv => decide (kv.1 = k)) = true
  · rw [if_pos e, if_pos e]; exact r.repl k ry
  · rw [if_neg e, if_neg e]; exact Paired.snoc r ⟨rfl, ry⟩
theorem KV.drop {kvs : List (κ × V)} {vs : List (κ × Value)} (r : KV kvs vs) (k : κ) : KV (dropK kvs k) (without vs k) := by
  unfold KV at r ⊢
  unfold dropK without
  induction r with
  | nil => exact .nil
  | @cons p q ps qs h t ih =>
    obtain ⟨h1, h2⟩ := h
    rw [List.filter_cons, List.filter_cons]
    by_cases e : p.1 = k
    · have a : ¬ decide (p.1 ≠ k) = true := by simp [e]
      have b : ¬ decide (q.1 ≠ k) = true := by simp [h1.symm.trans e]
      rw [if_neg a, if_neg b]; exact ih
    · have e' : ¬ q.1 = k := fun z => e (h1.trans z)
      have a : decide (p.1 ≠ k) = true := by simp [e]
      have b : decide (q.1 ≠ k) = true := by simp [e']
      rw [if_pos a, if_pos b]; exact .cons ⟨h1, h2⟩ ih
theorem KV.keys {kvs : List (κ × V)} {vs : List (κ × Value)} (r : KV kvs vs) : kvs.map (·.1) = vs.map (·.1) := by
  unfold KV at r
  induction r with
  | nil => rfl
  | cons h t ih => rw [List.map_cons, List.map_cons, ih, h.1]
theorem KV.length {kvs : List (κ × V)} {vs : List (κ × Value)} (r : KV kvs vs) : kvs.length = vs.length := Paired.length r
theorem dropK_le (kvs : List (κ × V)) (k : κ) : (dropK kvs k).length ≤ kvs.length := List.length_filter_le _ _
end
theorem kV_is {P : Program} {w : World} {k : Key} {u : Value} (r : RelV (kV k) u) : (mixKind P w).is k u = true := by
  cases k with
  | inl i => obtain ⟨t, e⟩ := (show ∃ t, u = Value.int i t from r); subst e; exact mixKind_int P w i t
  | inr x => obtain ⟨t, e⟩ := (show ∃ t, u = Value.str x t from r); subst e; exact mixKind_str P w x t
theorem items_are {P : Program} {w : World} : ∀ {ks : List Key} {us : List Value}, Vals (ks.map kV) us → ItemsAre (mixKind P w) ks us
  | [], _, r => by rw [List.map_nil] at r; cases r; exact .nil
  | k :: ks, _, r => by
    rw [List.map_cons] at r
    cases r with
    | cons h t => exact .cons (kV_is h) (items_are t)
abbrev KT (H : Hp) : List (List Key × V) → List (List Key × Addr × Value) → Prop := Paired fun p q => p.1 = q.1 ∧ H q.2.1 = some (.tup (p.1.map kV)) ∧ RelV p.2 q.2.2
theorem KT.val {H : Hp} {kvs : List (List Key × V)} {xs : List (List Key × Addr × Value)} (r : KT H kvs xs) (k : List Key) : RelO (valV kvs k) ((atKey xs k).map (·.2)) := by
  induction r with
  | nil => exact True.intro
  | @cons p q ps qs h t ih =>
    obtain ⟨h1, _, h2⟩ := h
    by_cases e : p.1 = k
    · have e' : q.1 = k := h1.symm.trans e
      have b : atKey (q :: qs) k = some q.2 := by simp [atKey, List.find?_cons, e']
      rw [valV_pos e, b]; exact h2
    · have e' : ¬ q.1 = k := fun z => e (h1.trans z)
      have b : atKey (q :: qs) k = atKey qs k := by simp [atKey, List.find?_cons, e']
      rw [valV_neg e, b]; exact ih
theorem KT.repl {H : Hp} {kvs : List (List Key × V)} {xs : List (List Key × Addr × Value)} (r : KT H kvs xs) (k : List Key) {y : V} {u : Value} (ry : RelV y u) :
    KT H (kvs.map fun kv => if kv.1 = k then (kv.1, y) else kv) (xs.map (putAt k u)) := by
  induction r with
  | nil => exact .nil
  | @cons p q ps qs h t ih =>
    rw [List.map_cons, List.map_cons]
    refine .cons ?_ ih
    obtain ⟨h1, h2, h3⟩ := h
    unfold putAt
    by_cases e : p.1 = k
    · rw [if_pos e, if_pos (h1.symm.trans e)]; exact ⟨h1, h2, ry⟩
    · rw [if_neg e, if_neg (fun z => e (h1.trans z))]; exact ⟨h1, h2, h3⟩
theorem KT.put {H : Hp} {kvs : List (List Key × V)} {xs : List (List Key × Addr × Value)} (r : KT H kvs xs) (k : List Key) {b : Addr} {y : V} {u : Value} (hb : H b = some (.tup (k.map kV))) (ry : RelV y u) :
    KT H (putK kvs k y) (storedH xs k b u) := by
  have e : (kvs.any fun kv => decide (kv.1 = k)) = (atKey xs k).isSome := by
    rw [valV_any, (r.val k).isSome_eq, Option.isSome_map]
  unfold putK storedH
  rw [e]
  by_cases q : (atKey xs k).isSome = true
  · rw [if_pos q, if_pos q]; exact r.repl k ry
  · rw [if_neg q, if_neg q]; exact Paired.snoc r ⟨rfl, hb, ry⟩
theorem KT.keeps {H H' : Hp} {kvs : List (List Key × V)} {xs : List (List Key × Addr × Value)} (r : KT H kvs xs) (ht : ∀ b ys, H b = some (.tup ys) → H' b = some (.tup ys)) : KT H' kvs xs :=
  Paired.mapP r fun _ _ z => ⟨z.1, ht _ _ z.2.1, z.2.2⟩
section
variable {P : Program} {w : World} {H : Hp} {h : Heap} {a : Addr}
theorem rd_of {u : HO} (ok : HOk P w H h) (e : Rd H a u) : ObjOk P w H h a u := e.ok ok
theorem dk_rd {kvs : List (Key × V)} (ok : HOk P w H h) (e : Rd H a (.dK kvs)) : kvs.length ≤ sizeLine ∧ (a == sysModules) = false ∧ ∃ vs, KV kvs vs ∧ h.DictOf (mixKind P w) a vs :=
  show ObjOk P w H h a (.dK kvs) from rd_of ok e
theorem dk_of {kvs : List (Key × V)} (ok : HOk P w H h) (e : H a = some (.dK kvs)) : kvs.length ≤ sizeLine ∧ (a == sysModules) = false ∧ ∃ vs, KV kvs vs ∧ h.DictOf (mixKind P w) a vs := dk_rd ok (.inl e)
theorem key_of {ks : List Key} (ok : HOk P w H h) (e : H a = some (.tup (ks.map kV))) : (tupleKind (mixKind P w)).is h ks a := by
  obtain ⟨_, its, r, o, h1, h2, n, h3⟩ := (show ObjOk P w H h a (.tup (ks.map kV)) from ok a _ e)
  exact ⟨o, its.toArray, n, h1, h2, h3, by simpa using items_are r⟩
theorem dt_rd {kvs : List (List Key × V)} (ok : HOk P w H h) (e : Rd H a (.dT kvs)) : kvs.length ≤ sizeLine ∧ (a == sysModules) = false ∧
    ∃ xs, KT H kvs xs ∧ h.DictOfH (tupleKind (mixKind P w)) a xs := by
  obtain ⟨z, y, xs, r, o, es, ep, h1, h2, h3, h4, h5⟩ := (show ObjOk P w H h a (.dT kvs) from rd_of ok e)
  refine ⟨z, y, xs, r, o, es, ep, h1, h2, h3, h4, fun x hx => ?_, h5⟩
  have all : ∀ {l : List (List Key × V)} {m : List (List Key × Addr × Value)}, KT H l m → ∀ x ∈ m, (tupleKind (mixKind P w)).is h x.1 x.2.1 := by
    intro l m q
    induction q with
    | nil => intro x hx; exact nomatch hx
    | @cons p q ps qs hq t ih =>
      intro x hx
      rcases List.mem_cons.mp hx with e | hx
      · subst e
        exact key_of ok (by rw [← hq.1]; exact hq.2.1)
      · exact ih x hx
  exact all r x hx
theorem dt_of {kvs : List (List Key × V)} (ok : HOk P w H h) (e : H a = some (.dT kvs)) : kvs.length ≤ sizeLine ∧ (a == sysModules) = false ∧
    ∃ xs, KT H kvs xs ∧ h.DictOfH (tupleKind (mixKind P w)) a xs := dt_rd ok (.inl e)
end
def DGet (H : Hp) (a : Addr) (y : V) (r : Option V) : Prop :=
  (∃ kvs k, Rd H a (.dK kvs) ∧ y = kV k ∧ r = valV kvs k) ∨ ∃ kvs k b, Rd H a (.dT kvs) ∧ y = .ref b ∧ H b = some (.tup (k.map kV)) ∧ r = valV kvs k
def DPut (H : Hp) (a : Addr) (y v : V) (H' : Hp) : Prop :=
  (∃ kvs k, H a = some (.dK kvs) ∧ y = kV k ∧ kvs.length < sizeLine ∧ H' = upd H a (.dK (putK kvs k v))) ∨
  ∃ kvs k b, H a = some (.dT kvs) ∧ y = .ref b ∧ H b = some (.tup (k.map kV)) ∧ kvs.length < sizeLine ∧ H' = upd H a (.dT (putK kvs k v))
theorem DGet.k {H : Hp} {a : Addr} {kvs : List (Key × V)} {k : Key} (e : H a = some (.dK kvs)) : DGet H a (kV k) (valV kvs k) := .inl ⟨kvs, k, .inl e, rfl, rfl⟩
theorem DGet.t {H : Hp} {a b : Addr} {kvs : List (List Key × V)} {k : List Key} (e : H a = some (.dT kvs)) (eb : H b = some (.tup (k.map kV))) : DGet H a (.ref b) (valV kvs k) := .inr ⟨kvs, k, b, .inl e, rfl, eb, rfl⟩
theorem DPut.k {H : Hp} {a : Addr} {kvs : List (Key × V)} {k : Key} {v : V} (e : H a = some (.dK kvs)) (hl : kvs.length < sizeLine) : DPut H a (kV k) v (upd H a (.dK (putK kvs k v))) := .inl ⟨kvs, k, e, rfl, hl, rfl⟩
theorem DPut.t {H : Hp} {a b : Addr} {kvs : List (List Key × V)} {k : List Key} {v : V} (e : H a = some (.dT kvs)) (eb : H b = some (.tup (k.map kV))) (hl : kvs.length < sizeLine) :
    DPut H a (.ref b) v (upd H a (.dT (putK kvs k v))) := .inr ⟨kvs, k, b, e, rfl, eb, hl, rfl⟩
section
variable {X : Cx} {pins : List (Addr × Obj)} {σ : St} {H : Hp} {s : Shared} {a : Addr} {y v : V} {u r : Value} {o : Option V} {A : Around} {E : Value → Shared → Prop}
theorem Inv.big (I : Inv X pins σ H s) : sysModules < s.heap.objs.size := by
  have h : mainGlobals < s.heap.objs.size := (I.mod.glob.keeps I.bk).lt
  exact Nat.lt_trans (by decide) h
theorem d_getItem {Q : Value → Shared → Prop} (hu : A.units + 1 < cLine) (I : Inv X pins σ H s) (g : DGet H a y (some v)) (ry : RelV y u) (h : ∀ w' s', Inv X pins σ H s' → RelV v w' → Q w' s') :
    wpAny (model X.prog X.w) A (getItem (.ref a) u) Q E s := by
  rcases g with ⟨kvs, k, e, ey, l⟩ | ⟨kvs, k, b, e, ey, eb, l⟩
  · subst ey
    obtain ⟨z, hd, vs, rel, dd⟩ := dk_rd I.hok e
    obtain ⟨w', hw, rw'⟩ := RelO.some_of (v := v) (o := valueAt vs k) (by rw [l]; exact rel.val k)
    exact wpAny_getItem_of (kV_is ry) dd.mapOf hw (h w' _ (I.tok _) rw')
  · subst ey
    cases (show u = Value.ref b from ry)
    obtain ⟨z, hd, xs, rel, dd⟩ := dt_rd I.hok e
    obtain ⟨w', hw, rw'⟩ := RelO.some_of (v := v) (o := (atKey xs k).map (·.2)) (by rw [l]; exact rel.val k)
    obtain ⟨p, hp, hp2⟩ := Option.map_eq_some_iff.mp hw
    refine wpAny_getItem_heap (tupleKind_room_in1 hu) (key_of I.hok eb) dd hp ?_
    rw [hp2]
    exact h w' _ (I.tok _) rw'
theorem d_in {Q : Value → Shared → Prop} (hu : A.units + 1 < cLine) (I : Inv X pins σ H s) (g : DGet H a y o) (ry : RelV y u) (h : ∀ s', Inv X pins σ H s' → Q (.bool o.isSome) s') :
    wpAny (model X.prog X.w) A (compareOp .In u (.ref a)) Q E s := by
  rcases g with ⟨kvs, k, e, ey, l⟩ | ⟨kvs, k, b, e, ey, eb, l⟩
  · subst ey
    obtain ⟨z, hd, vs, rel, dd⟩ := dk_rd I.hok e
    refine wpAny_in_of (kV_is ry) hd dd.mapOf ?_
    rw [← (rel.val k).isSome_eq, ← l]
    exact h _ (I.tok _)
  · subst ey
    cases (show u = Value.ref b from ry)
    obtain ⟨z, hd, xs, rel, dd⟩ := dt_rd I.hok e
    refine wpAny_in_heap (tupleKind_room_in1 hu) (key_of I.hok eb) hd dd ?_
    have q := (rel.val k).isSome_eq
    rw [Option.isSome_map] at q
    rw [← q, ← l]
    exact h _ (I.tok _)
theorem d_notIn {Q : Value → Shared → Prop} (hu : A.units + 1 < cLine) (I : Inv X pins σ H s) (g : DGet H a y o) (ry : RelV y u) (h : ∀ s', Inv X pins σ H s' → Q (.bool (!o.isSome)) s') :
    wpAny (model X.prog X.w) A (compareOp .NotIn u (.ref a)) Q E s := by
  rcases g with ⟨kvs, k, e, ey, l⟩ | ⟨kvs, k, b, e, ey, eb, l⟩
  · subst ey
    obtain ⟨z, hd, vs, rel, dd⟩ := dk_rd I.hok e
    refine wpAny_notIn_of (kV_is ry) hd dd.mapOf ?_
    rw [← (rel.val k).isSome_eq, ← l]
    exact h _ (I.tok _)
  · subst ey
    cases (show u = Value.ref b from ry)
    obtain ⟨z, hd, xs, rel, dd⟩ := dt_rd I.hok e
    refine wpAny_notIn_heap (tupleKind_room_in1 hu) (key_of I.hok eb) hd dd ?_
    have q := (rel.val k).isSome_eq
    rw [Option.isSome_map] at q
    rw [← q, ← l]
    exact h _ (I.tok _)
theorem d_write {h' : Heap} {t' : Nat} {ob : HO} (I : Inv X pins σ H s) (mu : Mut (H a)) (hs : Heap.SameBut a s.heap h') (he : ∃ q, h'.get? a = some q) (new : ObjOk X.prog X.w (upd H a ob) h' a ob) :
    Inv X pins σ (upd H a ob) { s with heap := h', toks := t' } :=
  I.write (x := a) (e := a) mu (.inl rfl) (fun b q hb z => (hs.2 b hb).trans z) he new
theorem dk_new {P : Program} {w : World} {H' : Hp} {h' : Heap} {kvs : List (Key × V)} {vs : List (Key × Value)} (z : kvs.length ≤ sizeLine) (hd : (a == sysModules) = false) (rel : KV kvs vs) (dd : h'.DictOf (mixKind P w) a vs) :
    ObjOk P w H' h' a (.dK kvs) := ⟨z, hd, vs, rel, dd⟩
theorem d_setItem {H' : Hp} {Q : Unit → Shared → Prop} (hu : A.units + 1 < cLine) (I : Inv X pins σ H s) (g : DPut H a y v H') (ry : RelV y u) (rv : RelV v r) (h : ∀ s', Inv X pins σ H' s' → Q () s') :
    wpAny (model X.prog X.w) A (setItem (.ref a) u r) Q E s := by
  rcases g with ⟨kvs, k, e, ey, l, eH⟩ | ⟨kvs, k, b, e, ey, eb, l, eH⟩
  · subst ey eH
    obtain ⟨z, hd, vs, rel, dd⟩ := dk_of I.hok e
    have hz : vs.length ≤ sizeLine := by rw [← rel.length]; exact z
    have hl : (putK kvs k v).length ≤ sizeLine := by have := length_putK kvs k v; omega
    refine wpAny_setItem_pairs (hsz := hz) (kV_is ry) dd fun h' dd' hs => h _ ?_
    have he : ∃ q, h'.get? a = some q := let ⟨q, _, _, hq, _⟩ := dd'; ⟨q, hq⟩
    exact d_write I (by rw [e]; exact True.intro) hs he (dk_new hl hd (rel.put k rv) dd')
  · subst ey eH
    cases (show u = Value.ref b from ry)
    obtain ⟨z, hd, xs, rel, dd⟩ := dt_of I.hok e
    have hz : xs.length ≤ sizeLine := by rw [← Paired.length rel]; exact z
    have hl : (putK kvs k v).length ≤ sizeLine := by have := length_putK kvs k v; omega
    refine wpAny_setItem_heap (hsz := hz) (tupleKind_room_in1 hu) (key_of I.hok eb) dd fun h' dd' hs => h _ ?_
    obtain ⟨q, es, ep, hq, h2, h3, h4, _, h5⟩ := dd'
    refine d_write I (by rw [e]; exact True.intro) hs ⟨q, hq⟩ ⟨hl, hd, _, (rel.put k eb rv).keeps fun c ys ec => ?_, q, es, ep, hq, h2, h3, h4, h5⟩
    rw [upd_ne (ne_of ec e (fun z => nomatch z))]
    exact ec
end
section
variable {X : Cx} {pins : List (Addr × Obj)} {σ : St} {H : Hp} {s : Shared} {a : Addr} {kvs : List (Key × V)} {k : Key} {u : Value} {A : Around} {E : Value → Shared → Prop}
theorem d_pop {v : V} {more : List Value} {Q : Value → Shared → Prop} (I : Inv X pins σ H s) (e : H a = some (.dK kvs)) (ry : RelV (kV k) u) (l : valV kvs k = some v) (hm : more = [] ∨ ∃ x, more = [x])
    (h : ∀ w' s', Inv X pins σ (upd H a (.dK (dropK kvs k))) s' → RelV v w' → Q w' s') : wpAny (model X.prog X.w) A (call (.builtin "dict.pop") (.ref a :: u :: more)) Q E s := by
  obtain ⟨z, hd, vs, rel, dd⟩ := dk_of I.hok e
  obtain ⟨w', hw, rw'⟩ := RelO.some_of (v := v) (o := valueAt vs k) (by rw [← l]; exact rel.val k)
  have hp : (keyPart u).isSome = true := by
    cases k with
    | inl i => obtain ⟨t, q⟩ := (show ∃ t, u = Value.int i t from ry); subst q; rfl
    | inr x => obtain ⟨t, q⟩ := (show ∃ t, u = Value.str x t from ry); subst q; rfl
  have ha : argsOk "dict.pop" ⟨.ref a :: u :: more, []⟩ := by
    rcases hm with q | ⟨x, q⟩
    · subst q; exact PySem.F.args_dict_pop_2 _ _
    · subst q; exact PySem.F.args_dict_pop_3 _ _ _
  refine call_meetsIn PySem.F.slot_dict_pop dd.typeIs PySem.F.entry_dict_pop ha (meets_dict_pop_there (mixKind X.prog X.w) a (kV_is ry) more hm hp)
    ⟨vs, w', dd, by rw [← rel.length]; exact z, hw, fun h' dd' hs => h w' _ ?_ rw'⟩
  have he : ∃ q, h'.get? a = some q := let ⟨q, _, _, hq, _⟩ := dd'; ⟨q, hq⟩
  exact d_write I (by rw [e]; exact True.intro) hs he (dk_new (Nat.le_trans (dropK_le kvs k) z) hd (rel.drop k) dd')
end
def NoSl (i : Expr) : Prop := ∀ ov iv, subscripted i false ov iv = operate [ov, iv] (getItem ov iv)
theorem subD_of {prog : Program} {w : World} {A : Around} {E : Value → Shared → Prop} {s : Shared} {env : Env} {value slice : Expr} {pos : Pos} {T id : String} {Q : Value → Shared → Prop}
    (hl : typeLookup (.type T) "__getitem__" = pure (some (.builtin id))) (hs : NoSl slice)
    (h : wpAny (model prog w) A (eval value env) (fun o s₁ => wpAny (model prog w) A (eval slice env) (fun i s₂ => s₂.TypeIs o T ∧ wpAny (model prog w) A (getItem o i) Q E s₂) E s₁) E s) :
    wpAny (model prog w) A (eval (.Subscript value slice pos) env) Q E s := by
  refine Subscript_ (wpAny_mono h (fun o s₁ h₁ => wpAny_mono h₁ (fun i s₂ h₂ => ?_) fun _ _ x => x) fun _ _ x => x)
  obtain ⟨hT, h₂⟩ := h₂
  unfold subscriptTail
  refine wpAny_bind ?_
  rw [getitemInPython_of_ne hT.not_modules]
  refine wpAny_bind (wpAny_specialOf hT hl ?_)
  have fin : wpAny (model prog w) A (subscripted slice false o i) (fun r s₃ => wpAny (model prog w) A (letTemporaryGo value o r >>= fun _ => pure r) Q E s₃) E s₂ := by
    rw [hs o i]
    exact wpAny_operating (wpAny_mono h₂ (fun r s₃ h₃ => wpAny_bind (wpAny_letTemporaryGo (wpAny_pure h₃))) fun _ _ x => x)
  first
    | exact wpAny_pure (wpAny_bind fin)
    | exact wpAny_bind (wpAny_pure (wpAny_bind fin))
    | exact wpAny_bind fin
theorem dict_typeIs {X : Cx} {pins : List (Addr × Obj)} {σ : St} {H : Hp} {s : Shared} {a : Addr} {y : V} {o : Option V} (I : Inv X pins σ H s) (g : DGet H a y o) : s.TypeIs (.ref a) "dict" := by
  rcases g with ⟨kvs, k, e, _, _⟩ | ⟨kvs, k, b, e, _, _, _⟩
  · obtain ⟨_, _, vs, _, dd⟩ := dk_rd I.hok e
    exact dd.typeIs
  · obtain ⟨_, _, xs, _, dd⟩ := dt_rd I.hok e
    exact dd.typeIs
def tDGet (td ty : TE) : TE := fun σ H Q => td σ H fun x H1 => ty σ H1 fun y H2 => ∃ a v, x = .ref a ∧ DGet H2 a y (some v) ∧ Q v H2
def tDIn (ty td : TE) : TE := fun σ H Q => ty σ H fun y H1 => td σ H1 fun x H2 => ∃ a o, x = .ref a ∧ DGet H2 a y o ∧ Q (.bl o.isSome) H2
def tDNotIn (ty td : TE) : TE := fun σ H Q => ty σ H fun y H1 => td σ H1 fun x H2 => ∃ a o, x = .ref a ∧ DGet H2 a y o ∧ Q (.bl (!o.isSome)) H2
def sDPut (td ty tv : TE) : TS := fun D σ H => tv σ H fun v H1 => td σ H1 fun x H2 => ty σ H2 fun y H3 => ∃ a H4, x = .ref a ∧ DPut H3 a y v H4 ∧ D.nx σ H4
section
variable {X : Cx} {o i e value : Expr} {pos pos' tpos : Pos} {td ty tv : TE}
theorem pe_dget (hu : X.A.units + 1 < cLine) (ho : PE X o td) (hi : PE X i ty) (hs : NoSl i) : PE X (.Subscript o i pos) (tDGet td ty) := by
  intro pins s σ H Q I h
  refine subD_of PySem.F.slot_dict_getitem.lookup hs (thn (ho pins s σ H _ I h) fun u s1 ⟨x, H1, I1, rx, q1⟩ => thn (hi pins s1 σ H1 _ I1 q1) fun iv s2 ⟨y, H2, I2, ry, a, v, ex, g, q2⟩ => ?_)
  subst ex
  obtain rfl : u = Value.ref a := rx
  exact ⟨dict_typeIs I2 g, d_getItem hu I2 g ry fun w' s3 I3 rw' => ⟨v, H2, I3, rw', q2⟩⟩
theorem pc_din (hu : X.A.units + 1 < cLine) (hi : PE X i ty) (ho : PE X o td) : PC X .In i o (tDIn ty td) := by
  intro pins s σ H Q I h
  refine thn (hi pins s σ H _ I h) fun iv s1 ⟨y, H1, I1, ry, q1⟩ => thn (ho pins s1 σ H1 _ I1 q1) fun u s2 ⟨x, H2, I2, rx, a, ov, ex, g, q2⟩ => ?_
  subst ex
  obtain rfl : u = Value.ref a := rx
  exact d_in hu I2 g ry fun s3 I3 => ⟨.bl ov.isSome, H2, I3, rfl, q2⟩
theorem pc_dnotin (hu : X.A.units + 1 < cLine) (hi : PE X i ty) (ho : PE X o td) : PC X .NotIn i o (tDNotIn ty td) := by
  intro pins s σ H Q I h
  refine thn (hi pins s σ H _ I h) fun iv s1 ⟨y, H1, I1, ry, q1⟩ => thn (ho pins s1 σ H1 _ I1 q1) fun u s2 ⟨x, H2, I2, rx, a, ov, ex, g, q2⟩ => ?_
  subst ex
  obtain rfl : u = Value.ref a := rx
  exact d_notIn hu I2 g ry fun s3 I3 => ⟨.bl (!ov.isSome), H2, I3, rfl, q2⟩
theorem ps_dput (hu : X.A.units + 1 < cLine) (ho : PE X o td) (hi : PE X i ty) (hv : PE X value tv) (hs : swapsWith value (some (.Subscript o i pos')) pos.line X.env = pure false) :
    PS X (.Assign [.Subscript o i pos'] value pos) (sDPut td ty tv) := by
  intro pins s σ H D I h
  refine wpAny_Assign_Subscript (thn (hv pins s σ H _ I h) fun r s1 ⟨v, H1, I1, rv, q1⟩ => thn (ho pins s1 σ H1 _ I1 q1) fun u s2 ⟨x, H2, I2, rx, q2⟩ => thn (hi pins s2 σ H2 _ I2 q2) fun iv s3 ⟨y, H3, I3, ry, a, H4, ex, g, q3⟩ => ?_) hs
  subst ex
  obtain rfl : u = Value.ref a := rx
  exact d_setItem hu I3 g ry rv fun s4 I4 => ⟨σ, H4, I4, q3⟩
end
theorem dk_empty {P : Program} {w : World} {H : Hp} (h : Heap) (hb : sysModules < h.objs.size) : ObjOk P w H (h.push { cls := .type "dict", data := .dict #[] }) h.objs.size (.dK []) :=
  ⟨Nat.zero_le _, beq_eq_false_iff_ne.mpr (Ne.symm (Nat.ne_of_lt hb)), [], .nil, Heap.DictOf.new h⟩
def tDNewK : TE := fun _ H Q => ∀ p, H p = none → Q (.ref p) (upd H p (.dK []))
section
variable {X : Cx} {pos : Pos}
theorem pe_dnewK : PE X (.Dict [] [] pos) tDNewK := fun pins s σ H Q I h =>
  wpAny_Dict_empty ⟨.ref s.heap.objs.size, _, I.laid (a := s.heap.objs.size) (o := .dK []) (t' := s.toks) (fun _ _ q => Heap.get?_push_of_some _ q) (Nat.le_refl _) (dk_empty s.heap I.big), rfl, h _ (I.hok.fresh (Nat.le_refl _))⟩
end
def tPairs : List (TE × TE) → St → Hp → (List (V × V) → Hp → Prop) → Prop
  | [], _, H, Q => Q [] H
  | (tk, tv) :: r, σ, H, Q => tk σ H fun x H1 => tv σ H1 fun y H2 => tPairs r σ H2 fun ps H3 => Q ((x, y) :: ps) H3
abbrev VV : List (V × V) → List (Value × Value) → Prop := Paired fun p q => RelV p.1 q.1 ∧ RelV p.2 q.2
def PPs (X : Cx) (pos : Pos) (keys : List (Option Expr)) (values : List Expr) (trs : List (TE × TE)) : Prop :=
  ∀ (pins : List (Addr × Obj)) (s : Shared) (σ : St) (H : Hp) (Q : List (V × V) → Hp → Prop), Inv X pins σ H s → tPairs trs σ H Q →
    wpAny (model X.prog X.w) X.A (evalPairs (pairTrees keys values X.env pos)) (fun vs s' => ∃ ps H', Inv X pins σ H' s' ∧ VV ps vs ∧ Q ps H') X.xe s
theorem pps_nil {X : Cx} {pos : Pos} : PPs X pos [] [] [] := fun pins s σ H Q I h => pairTrees_nil_walk ⟨[], H, I, .nil, h⟩
theorem pps_cons {X : Cx} {pos : Pos} {k v : Expr} {ks : List (Option Expr)} {vs : List Expr} {tk tv : TE} {trs : List (TE × TE)} (hk : PE X k tk) (hv : PE X v tv) (hr : PPs X pos ks vs trs) :
    PPs X pos (some k :: ks) (v :: vs) ((tk, tv) :: trs) := fun pins s σ H Q I h =>
  pairTrees_cons_walk (thn (hk pins s σ H _ I h) fun u s1 ⟨x, H1, I1, rx, q1⟩ => thn (hv pins s1 σ H1 _ I1 q1) fun w2 s2 ⟨y, H2, I2, ry, q2⟩ =>
    thn (hr pins s2 σ H2 _ I2 q2) fun ws s3 ⟨ps, H3, I3, rel, q3⟩ => ⟨(x, y) :: ps, H3, I3, .cons ⟨rx, ry⟩ rel, q3⟩)
def mergeK (kvs more : List (Key × V)) : List (Key × V) := more.foldl (fun acc kv => putK acc kv.1 kv.2) kvs
theorem KV.merge : ∀ {more : List (Key × V)} {rs : List (Key × Value)} {kvs : List (Key × V)} {vs : List (Key × Value)}, KV more rs → KV kvs vs → KV (mergeK kvs more) (merged vs rs) := by
  intro more rs kvs vs r
  unfold KV at r
  induction r generalizing kvs vs with
  | nil => intro q; exact q
  | @cons p q ps qs h t ih =>
    intro r0
    have e : KV (putK kvs p.1 p.2) (stored vs q.1 q.2) := by
      have := r0.put p.1 h.2
      rw [← h.1]; exact this
    exact ih e
theorem length_mergeK : ∀ (more kvs : List (Key × V)), (mergeK kvs more).length ≤ kvs.length + more.length
  | [], kvs => by show kvs.length ≤ kvs.length + 0; omega
  | p :: r, kvs => by
    have h1 := length_mergeK r (putK kvs p.1 p.2)
    have h2 := length_putK kvs p.1 p.2
    show (mergeK (putK kvs p.1 p.2) r).length ≤ _
    rw [List.length_cons]; omega
theorem carries_of {P : Program} {w : World} : ∀ {kvs : List (Key × V)} {ws : List (Value × Value)}, VV (kvs.map fun kv => (kV kv.1, kv.2)) ws → ∃ rs, Carries (mixKind P w) ws rs ∧ KV kvs rs
  | [], _, r => by rw [List.map_nil] at r; cases r; exact ⟨[], True.intro, .nil⟩
  | p :: kvs, _, r => by
    rw [List.map_cons] at r
    cases r with
    | @cons a b as bs h t =>
      obtain ⟨rs, c, q⟩ := carries_of (P := P) (w := w) t
      obtain ⟨b1, b2⟩ := b
      exact ⟨(p.1, b2) :: rs, ⟨kV_is h.1, rfl, c⟩, .cons ⟨rfl, h.2⟩ q⟩
def tDisp (trs : List (TE × TE)) : TE := fun σ H Q => ∀ p, H p = none → tPairs trs σ (upd H p (.dK [])) fun ps H2 => H2 p = some (.dK []) ∧ ∃ kvs : List (Key × V), ps = kvs.map (fun kv => (kV kv.1, kv.2)) ∧ kvs.length ≤ 15 ∧ Q (.ref p) (upd H2 p (.dK (mergeK [] kvs)))
theorem pe_disp {X : Cx} {pos : Pos} {keys : List (Option Expr)} {values : List Expr} {trs : List (TE × TE)} (h : PPs X pos keys values trs) (hall : keys.all (·.isSome) = true) (hl : keys.length = values.length) (h0 : keys ≠ [])
    (h15 : keys.length ≤ 15) : PE X (.Dict keys values pos) (tDisp trs) := by
  intro pins s σ H Q I q
  have hn := I.hok.fresh (Nat.le_refl s.heap.objs.size)
  have I1 := I.laid (a := s.heap.objs.size) (o := .dK []) (h' := s.heap.push { cls := .type "dict", data := .dict #[] }) (t' := s.toks) (fun _ _ q => Heap.get?_push_of_some _ q) (Nat.le_refl _) (dk_empty s.heap I.big)
  refine wpAny_Dict_walk (knd := mixKind X.prog X.w) hall hl h0 h15 (thn (h pins _ σ _ _ I1 (q _ hn)) fun ws s2 ⟨ps, H2, I2, rel, e, kvs, ep, lk, q2⟩ => ?_)
  subst ep
  obtain ⟨rs, c, rk⟩ := carries_of (P := X.prog) (w := X.w) rel
  obtain ⟨z, hd, vs0, r0, dd⟩ := dk_of I2.hok e
  cases r0
  refine ⟨rs, c, dd, fun h' dd' hs => ⟨.ref s.heap.objs.size, _, ?_, rfl, q2⟩⟩
  have hz : (mergeK [] kvs).length ≤ sizeLine := by
    have h1 := length_mergeK kvs []
    rw [List.length_nil] at h1
    rw [sizeLine_eq]; omega
  have he : ∃ q, h'.get? s.heap.objs.size = some q := let ⟨q, _, _, hq, _⟩ := dd'; ⟨q, hq⟩
  exact d_write I2 (by rw [e]; exact True.intro) hs he (dk_new hz hd (rk.merge .nil) dd')
structure M1 (X : Cx) (o : Expr) (m : Str) (apos : Pos) (e : Expr) (cpos : Pos) : Prop where
  base : attributeBase o m X.env (eval o X.env) = eval o X.env
  few : ((backTo cpos (starEach [e] X.env)).all (fun x => !x.1) && (backToKw cpos (keywordEach [] X.env)).all (fun x => x.1.isSome)
    && decide (([e] : List Expr).length + ([] : List Keyword).length + (if ([] : List Keyword).isEmpty then 0 else 1) < 30)) = true
  line : (apos.endLine == cpos.line) = true
  trees : backTo cpos (starEach [e] X.env) = [(false, eval e X.env)]
def IsD (H : Hp) (a : Addr) : Prop := (∃ kvs, Rd H a (.dK kvs)) ∨ ∃ kvs, Rd H a (.dT kvs)
theorem isD_at {X : Cx} {pins : List (Addr × Obj)} {σ : St} {H : Hp} {s : Shared} {a : Addr} (I : Inv X pins σ H s) (d : IsD H a) :
    s.TypeIs (.ref a) "dict" ∧ (∀ b, Value.ref a = .ref b → ∃ ob, s.heap.get? b = some ob ∧ ob.dict = none) ∧ (a == sysModules) = false := by
  rcases d with ⟨kvs, e⟩ | ⟨kvs, e⟩
  · obtain ⟨_, hd, vs, _, dd⟩ := dk_rd I.hok e
    refine ⟨dd.typeIs, fun b q => ?_, hd⟩
    cases q
    obtain ⟨ob, _, _, h1, h2, _⟩ := dd
    exact ⟨ob, h1, h2.2.1⟩
  · obtain ⟨_, hd, xs, _, dd⟩ := dt_rd I.hok e
    refine ⟨dd.typeIs, fun b q => ?_, hd⟩
    cases q
    obtain ⟨ob, _, _, h1, h2, _⟩ := dd
    exact ⟨ob, h1, h2.2.1⟩
section
variable {X : Cx} {pins : List (Addr × Obj)} {σ : St} {H : Hp} {s : Shared} {a : Addr} {y d : V} {u r : Value} {o : Option V} {A : Around} {E : Value → Shared → Prop}
end
def tDPop1 (td ty : TE) : TE := fun σ H Q => td σ H fun x H1 => ∃ a, x = .ref a ∧ IsD H1 a ∧ ty σ H1 fun y H2 => ∃ kvs k v, H2 a = some (.dK kvs) ∧ y = kV k ∧ valV kvs k = some v ∧ Q v (upd H2 a (.dK (dropK kvs k)))
section
variable {X : Cx} {o e f : Expr} {apos cpos : Pos} {td ty tx : TE}
theorem pe_dpop1 (ho : PE X o td) (he : PE X e ty) (m : M1 X o "pop" apos e cpos) : PE X (.Call (.Attribute o "pop" apos) [e] [] cpos) (tDPop1 td ty) := by
  intro pins s σ H Q I h
  refine wpAny_Call_method m.base m.few m.line PySem.F.plainAttrs_dict PySem.F.slot_dict_pop PySem.F.type_dict_pop (thn (ho pins s σ H _ I h) fun u s1 ⟨x, H1, I1, rx, a, ex, d, q1⟩ => ?_)
  subst ex
  obtain rfl : u = Value.ref a := rx
  obtain ⟨t1, t2, _⟩ := isD_at I1 d
  refine ⟨t1, t2, ?_⟩
  rw [m.trees]
  refine Calls.callWith_builtin rfl (Calls.evalArgs_plain (Calls.spliced_cons (thn (he pins s1 σ H1 _ I1 q1) fun iv s2 ⟨y, H2, I2, ry, kvs, k, v, ea, ey, l, q2⟩ => Calls.spliced_nil ?_)))
  subst ey
  exact d_pop I2 ea ry l (.inl rfl) fun w' s3 I3 rw' => ⟨v, _, I3, rw', q2⟩
end
section
variable {X : Cx} {pins : List (Addr × Obj)} {σ : St} {H : Hp} {s : Shared} {a : Addr} {kvs : List (Key × V)} {A : Around} {E : Value → Shared → Prop}
end
section
variable {X : Cx} {pins : List (Addr × Obj)} {σ : St} {H : Hp} {s : Shared} {a : Addr} {y : V} {u : Value} {A : Around} {E : Value → Shared → Prop}
end
end L2
set_option maxRecDepth 100000
namespace L2
open PySem PySem.Spec PyProof.Rows
def RawD (h : Heap) (d : Addr) (es : Array DictEntry) (ep : Nat) : Prop := ∃ o, h.get? d = some o ∧ o.ExactDict ∧ o.data = .dict es ep
theorem RawD.to {h h' : Heap} {d : Addr} {es : Array DictEntry} {ep : Nat} (x : RawD h d es ep) (k : ∀ o, h.get? d = some o → h'.get? d = some o) : RawD h' d es ep := let ⟨o, a, r⟩ := x; ⟨o, k o a, r⟩
section
variable {prog : Program} {w : World} {A : Around} {E : Value → Shared → Prop} {s : Shared} {it d : Addr} {es : Array DictEntry} {i n ep : Nat}
theorem RawD.ty (x : RawD s.heap d es ep) : s.TypeIs (.ref d) "dict" := let ⟨o, a, c, _⟩ := x; ⟨o, a, c.1⟩
theorem raw_iter {Q : Value → Shared → Prop} (hd : (d == sysModules) = false) (x : RawD s.heap d es ep) (hQ : Q (.ref s.heap.objs.size) { s with heap := s.heap.push { cls := .type "dict_keyiterator", data := .fields #[.ref d, .int 0 0, .int es.size 0, .int ep 0] } }) :
    wpAny (model prog w) A (pyIter (.ref d)) Q E s := by
  have T := x.ty
  obtain ⟨o, a, _, b⟩ := x
  refine wpAny_pyIter_slot T F.slot_dict_iter (wpAny_call_entry F.slot_dict_iter T F.entry_dict_iter ?_ (F.args_dict_iter_1 _))
  unfold Builtin.«dict.__iter__» Builtin.Dict.dictSlotNone Builtin.Dict.showsAll
  refine wpAny_bind (wpAny_bind (wpAny_notOrdered_dict T (wpAny_pure ?_)))
  refine wpAny_bind (show wpAny _ _ (pure d : Sem Addr) _ _ s from wpAny_pure ?_)
  rw [if_neg (by rw [hd]; intro z; cases z)]
  refine wpAny_bind (wpAny_pure (wpAny_bind (wpAny_dictEntries a b (wpAny_bind (wpAny_dictEpoch a b (wpAny_bind (wpAny_newObj_type (wpAny_pure ⟨_, rfl, "dict_keyiterator", _, ⟨_, Heap.get?_push_size _ rfl, rfl⟩, F.slot_dict_keyiterator_next.lookup, ?_⟩))))))))
  exact hQ
theorem raw_item {Q : Option Value → Shared → Prop} (I : s.heap.IsKeyIter it d i es.size ep) (x : RawD s.heap d es ep) (hi : i < es.size)
    (hQ : ∀ h', h'.IsKeyIter it d (i + 1) es.size ep → Heap.SameBut it s.heap h' → Q (some es[i].key) { s with heap := h' }) : wpAny (model prog w) A (pyNext (.ref it)) Q E s := by
  have T := I.typeIs
  obtain ⟨u, u1, u2, u3⟩ := id I
  obtain ⟨o, a, _, b⟩ := x
  unfold pyNext
  refine wpAny_bind (wpAny_attempt (wpAny_callSpecial?_slot (name := Str.ofString "__next__") T F.slot_dict_keyiterator_next (wpAny_call_entry F.slot_dict_keyiterator_next T F.entry_dict_keyiterator_next ?_ (F.args_dict_keyiterator_next_1 _))))
  refine wpAny_bind (wpAny_pure (wpAny_bind (wpAny_bind ?_)))
  refine wpAny_bind (wpAny_typeNameOfWhole_keyiter T (wpAny_pure (wpAny_bind (wpAny_fieldsOf u1 u3 ?_))))
  simp only [show Builtin.Dict_items.ownsTuple "dict_keyiterator" = false by decide, Bool.false_eq_true, if_false]
  show wpAny _ _ (if (Value.ref d == Value.none) = true then _ else _) _ _ s; rw [if_neg (fun z => nomatch z)]
  refine wpAny_bind (wpAny_pure (wpAny_bind (wpAny_dictEntries a b ?_)))
  rw [if_neg (by simp)]; refine wpAny_bind (wpAny_pure (wpAny_bind (wpAny_dictEpoch a b ?_)))
  rw [if_neg (by simp)]; refine wpAny_pure ?_
  simp only [show ¬ ((i : Int) < 0) by omega, if_false, Int.toNat_natCast, Array.getElem?_eq_getElem hi]
  refine wpAny_bind (wpAny_bind (wpAny_typeNameOfWhole_keyiter T (wpAny_pure (wpAny_bind (wpAny_isOneOf_keyiter T ?_)))))
  show wpAny _ _ (setField (.ref it) 1 (rawInt ((i : Int) + 1)) >>= _) _ _ s; refine wpAny_bind (wpAny_setField u1 u3 (by simp) ?_)
  have J : (s.heap.update it (Obj.mapFields (·.setIfInBounds 1 (rawInt ((i : Int) + 1))))).IsKeyIter it d (i + 1) es.size ep := ⟨_, Heap.get?_update_self _ u1 (Obj.isFreed_of_fields (Obj.data_mapFields u3 _)), (Obj.cls_mapFields ..).trans u2, by rw [Obj.data_mapFields u3]; simp [rawInt]⟩
  refine wpAny_bind (wpAny_holding (wpAny_bind (wpAny_isOneOf_keyiter (s := { s with heap := s.heap.update it (Obj.mapFields (·.setIfInBounds 1 (rawInt ((i : Int) + 1)))) }) J.typeIs ?_)))
  show wpAny _ _ (pure es[i].key) _ _ _; exact wpAny_pure (wpAny_pure ⟨_, rfl, wpAny_pure (hQ _ J (Heap.SameBut.update ..))⟩)
theorem raw_end {Q : Option Value → Shared → Prop} (hh : A.handled = none) (I : s.heap.IsKeyIter it d i es.size ep) (x : RawD s.heap d es ep) (hi : es.size ≤ i)
    (hQ : ∀ h', Heap.ExtBut it s.heap h' → Q none { s with heap := h' }) : wpAny (model prog w) A (pyNext (.ref it)) Q E s := by
  have T := I.typeIs
  obtain ⟨u, u1, u2, u3⟩ := id I
  obtain ⟨o, a, _, b⟩ := x
  unfold pyNext
  refine wpAny_bind (wpAny_attempt (wpAny_callSpecial?_slot (name := Str.ofString "__next__") T F.slot_dict_keyiterator_next (wpAny_call_entry F.slot_dict_keyiterator_next T F.entry_dict_keyiterator_next ?_ (F.args_dict_keyiterator_next_1 _))))
  refine wpAny_bind (wpAny_pure (wpAny_bind (wpAny_bind ?_)))
  refine wpAny_bind (wpAny_typeNameOfWhole_keyiter T (wpAny_pure (wpAny_bind (wpAny_fieldsOf u1 u3 ?_))))
  simp only [show Builtin.Dict_items.ownsTuple "dict_keyiterator" = false by decide, Bool.false_eq_true, if_false]
  show wpAny _ _ (if (Value.ref d == Value.none) = true then _ else _) _ _ s; rw [if_neg (fun z => nomatch z)]
  refine wpAny_bind (wpAny_pure (wpAny_bind (wpAny_dictEntries a b ?_)))
  rw [if_neg (by simp)]; refine wpAny_bind (wpAny_pure (wpAny_bind (wpAny_dictEpoch a b ?_)))
  rw [if_neg (by simp)]; refine wpAny_pure ?_
  simp only [show ¬ ((i : Int) < 0) by omega, if_false, Int.toNat_natCast, Array.getElem?_eq_none hi]
  refine wpAny_bind (wpAny_bind (wpAny_typeNameOfWhole_keyiter T (wpAny_pure ?_)))
  show wpAny _ _ (setField (.ref it) 0 .none >>= _) _ _ s; refine wpAny_bind (wpAny_setField u1 u3 (by simp) ?_)
  show wpAny _ _ (newExc (.type "StopIteration") [] >>= _) _ _ _; refine wpAny_bind ?_
  simp only [newExc, newTuple]; refine wpAny_bind (wpAny_newObj_type ?_ (by size_fits))
  refine wpAny_bind (m := firstArgMember _ _) (wpAny_of_eq (a := Value.none) (by first | rfl | (simp only [firstArgMember]; rfl)) (wpAny_newObj_type ?_ (by size_fits)))
  simp only [raiseNew]; refine wpAny_bind (wpAny_handled ?_); rw [show A.in1.handled = none from hh]
  refine wpAny_bind (wpAny_pure (wpAny_throw ?_)); refine wpAny_bind (wpAny_isInstance (T := "StopIteration") (b := true) ⟨_, Heap.get?_push_size _ rfl, rfl⟩ isSubtype_stop (wpAny_pure ?_))
  exact hQ _ (((Heap.SameBut.update ..).extBut.push _).push _)
theorem raw_walks (hh : A.handled = none) (I : Addr) (hne : d ≠ I) : Walks prog w A I [I, d] [I] es.size (fun i v => (es[i]?).map (·.key) = some v) (fun i h => h.IsKeyIter I d i es.size ep ∧ RawD h d es ep) where
  sub := fun b hb => by simp at hb; simp [hb]
  frame := fun _ _ _ st hk => ⟨st.1.at fun o e => hk I (by simp) o e, st.2.to fun o e => hk d (by simp) o e⟩
  item := fun i s Q E hi st hQ => raw_item st.1 st.2 hi fun h' J hs => hQ _ h' s.toks (by rw [Array.getElem?_eq_getElem hi]; rfl) ⟨J, st.2.to fun o e => hs.extBut d o hne e⟩ fun b o hb e => hs.extBut b o (fun h => hb (by simp [h])) e
  done := fun s Q E st hQ => raw_end hh st.1 st.2 (Nat.le_refl _) fun h' he => hQ h' s.toks fun b o hb e => he b o (fun h => hb (by simp [h])) e
  self := fun _ _ _ _ st hQ => wpAny_pyIter_keyiter st.1 hQ
theorem raw_src (lo : (d == sysModules) = false) : PySem.W.KdlSrc prog w "dict" d d es.size (fun i v => (es[i]?).map (·.key) = some v) (fun h => RawD h d es ep) where
  type := fun _ x => x.ty
  there := fun _ ⟨_, a, _⟩ => ⟨Heap.lt_size a, Heap.lt_size a⟩
  keep := fun _ _ x hk => x.to fun o e => hk d (.inl rfl) o e
  notList := by decide
  notTuple := by decide
  hint := fun _ _ _ _ x hq => PySem.W.kdl_hint_dict x.ty hq
  iter := fun _ s hh x => ⟨_, _, (fun _ _ hq => raw_iter lo x hq), raw_walks (es := es) (ep := ep) hh _ (let ⟨_, a, _⟩ := x; Nat.ne_of_lt (Heap.lt_size a)), ⟨⟨_, Heap.get?_push_size _ rfl, rfl, rfl⟩, x.to fun _ e => Heap.get?_push_of_some _ e⟩⟩
end
end L2
set_option maxRecDepth 100000
namespace L2
open PySem PySem.Spec PyProof.Rows
section
variable {X : Cx}
theorem raw_meets_len {prog : Program} {w : World} {d : Addr} (lo : (d == sysModules) = false) : MeetsIn prog w (Builtin.«dict.__len__» ⟨[.ref d], []⟩) (fun _ R s => ∃ es ep, RawD s.heap d es ep ∧ R (.ok (.ret (.int es.size s.toks))) { s with toks := s.toks + 1 }) :=
  .of_wp fun A R s ⟨es, ep, ⟨o, a, _, b⟩, h⟩ => by
    show wpAny _ _ (dictSize d >>= _) _ _ s; unfold dictSize; refine wpAny_bind (wpAny_bind (wpAny_dictEntries a b (wpAny_pure ?_)))
    show wpAny _ _ (Builtin.Dict.pendingCount d >>= _) _ _ s; refine wpAny_bind (wpAny_pendingCount_other lo (wpAny_ret_mkInt ?_))
    rw [Nat.add_zero]; exact h
theorem raw_len {prog : Program} {w : World} {A : Around} {E : Value → Shared → Prop} {s : Shared} {d : Addr} {es : Array DictEntry} {ep : Nat} {Q : Value → Shared → Prop} (lo : (d == sysModules) = false) (x : RawD s.heap d es ep) (fit : (es.size : Int) < 2 ^ 63)
    (h : Q (.int es.size (s.toks + 1)) { s with toks := s.toks + 1 + 1 }) : wpAny (model prog w) A (call (.builtin "len") [.ref d]) Q E s := by
  refine Calls.call_function_entry kind_len plain_len entry_len (args_len1 _) ?_
  unfold Builtin.«len»; refine wpAny_bind (m := oneArg "len" _) (wpAny_pure ?_)
  refine wpAny_bind (m := callSpecial? (.ref d) (Str.ofString "__len__")) (wpAny_callSpecial?_slot (name := Str.ofString "__len__") x.ty F.slot_dict_len (call_meetsIn F.slot_dict_len x.ty F.entry_dict_len (F.args_dict_len_1 _) (raw_meets_len lo) ⟨es, ep, x, ?_⟩))
  show wpAny _ _ _ _ _ { s with toks := s.toks + 1 }; refine wpAny_bind (wpAny_holding (wpAny_pure (wpAny_bind (wpAny_letGo ?_))))
  show wpAny _ _ (if ((es.size : Nat) : Int) < 0 then _ else _) _ _ _; rw [if_neg (by omega)]
  show wpAny _ _ (if ((es.size : Nat) : Int) ≥ 2 ^ 63 then _ else _) _ _ _; rw [if_neg (by omega)]
  exact wpAny_bind (wpAny_mkInt (wpAny_pure ⟨_, rfl, h⟩))
end
end L2
set_option maxRecDepth 100000
namespace L2
open PySem PySem.Spec PyProof.Rows
section
variable {X : Cx} {pins : List (Addr × Obj)} {σ : St} {H : Hp} {s : Shared} {d : Addr} {o : Obj} {kvs : List (Key × V)}
def NF (X : Cx) (d : Addr) : Prop := ∀ o u, X.H₀ d ≠ some (.frz o u)
theorem Inv.nf (I : Inv X pins σ H s) (hd : H d = some (.dK kvs)) : NF X d := fun o u z => by
  have := I.base.frzs d o u z
  rw [hd] at this; cases this
theorem stay_upd {P : Program} {w : World} {h : Heap} {a : Addr} {o u : HO} {H : Hp} {v : HO} (x : ObjOk P w H h a o) (hd : H d = some u) (h1 : ∀ b, u ≠ .own b) (h2 : ∀ xs, u ≠ .tup xs) : ObjOk P w (upd H d v) h a o :=
  x.stay (fun _ _ _ q => q) (fun b q => by rw [upd_ne (fun z => by rw [z, hd] at q; exact h1 _ (Option.some.inj q))]; exact q) fun b xs q => by rw [upd_ne (fun z => by rw [z, hd] at q; exact h2 _ (Option.some.inj q))]; exact q
theorem Inv.redress {u v : HO} (I : Inv X pins σ H s) (hd : H d = some u) (h1 : ∀ b, u ≠ .own b) (h2 : ∀ xs, u ≠ .tup xs) (h3 : ∀ ps, u ≠ .tbl ps) (h4 : ∀ o' u', X.H₀ d = some (.frz o' u') → False) (new : ObjOk X.prog X.w (upd H d v) s.heap d v) : Inv X pins σ (upd H d v) s where
  ok := I.ok
  os := I.os
  bare := I.bare
  base := ⟨I.base.keep, I.base.slot, fun b ob q n hx => by rw [upd_ne (fun z => by have := I.base.free b ob q n hx; rw [z, hd] at this; cases this)]; exact I.base.free b ob q n hx, I.base.there,
    fun b xs q => by have := I.base.tups b xs q; rw [upd_ne (fun z => by rw [z, hd] at this; exact h2 _ (Option.some.inj this))]; exact this,
    fun b ob w q => (upd_ne (fun z : b = d => h4 ob w (show X.H₀ d = some (.frz ob w) by rw [← z]; exact q))).trans (I.base.frzs b ob w q),
    fun b ps q => by obtain ⟨m, e⟩ := I.base.tbls b ps q; exact ⟨m, by rw [upd_ne (fun z => by rw [z, hd] at e; exact h3 _ (Option.some.inj e))]; exact e⟩⟩
  loc := I.loc
  cell := I.cell
  free := by rw [upd_ne (fun z => by have := I.free; rw [z, hd] at this; cases this)]; exact I.free
  freeC := fun x c e => by rw [upd_ne (fun z => by have := I.freeC x c e; rw [z, hd] at this; cases this)]; exact I.freeC x c e
  pin := fun p hp => by
    obtain ⟨a1, a2, a3⟩ := I.pin p hp
    exact ⟨a1, by rw [upd_ne (fun z => by rw [z, hd] at a2; cases a2)]; exact a2, a3⟩
  hok := fun a ob e => by
    by_cases ha : a = d
    · subst ha; rw [upd_same] at e; cases e; exact new
    · rw [upd_ne ha] at e; exact stay_upd (I.hok a ob e) hd h1 h2
  len := I.len
theorem Inv.freeze (I : Inv X pins σ H s) (hd : H d = some (.dK kvs)) (ho : s.heap.get? d = some o) : Inv X pins σ (upd H d (.frz o (.dK kvs))) s :=
  I.redress hd (fun _ z => nomatch z) (fun _ z => nomatch z) (fun _ z => nomatch z) (fun o u z => I.nf hd o u z) ⟨ho, stay_upd (I.hok d _ hd) hd (fun _ z => nomatch z) fun _ z => nomatch z⟩
theorem Inv.thaw (I : Inv X pins σ H s) (hd : H d = some (.frz o (.dK kvs))) (nf : NF X d) : Inv X pins σ (upd H d (.dK kvs)) s :=
  I.redress hd (fun _ z => nomatch z) (fun _ z => nomatch z) (fun _ z => nomatch z) (fun o u z => nf o u z) (stay_upd (I.hok d _ hd).2 hd (fun _ z => nomatch z) fun _ z => nomatch z)
end
def Itv (o : Obj) (d : Addr) : It :=
  ⟨fun i H => ∃ kvs kv, H d = some (.frz o (.dK kvs)) ∧ kvs[i]? = some kv, fun i H x H' => H' = H ∧ ∀ kvs, H d = some (.frz o (.dK kvs)) → ∃ kv, kvs[i]? = some kv ∧ x = kv.2, fun i H => ∃ kvs, H d = some (.frz o (.dK kvs)) ∧ kvs.length ≤ i⟩
theorem key_rel {P : Program} {w : World} {k : Key} {u : Value} (h : (mixKind P w).is k u = true) : RelV (kV k) u := by
  rcases keyIs_shape (k := k) (v := u) h with ⟨i, t, rfl, rfl⟩ | ⟨x, t, rfl, rfl⟩
  · exact ⟨t, rfl⟩
  · exact ⟨t, rfl⟩
section
variable {X : Cx} {pins : List (Addr × Obj)} {σ : St} {H : Hp} {s : Shared} {d : Addr} {o : Obj} {es : Array DictEntry} {ep : Nat} {kvs : List (Key × V)}
theorem Inv.frd (I : Inv X pins σ H s) (hd : H d = some (.frz o (.dK kvs))) (ed : o.data = .dict es ep) : ∃ vs, KV kvs vs ∧ s.heap.DictAt (mixKind X.prog X.w) d vs ep ∧ vs.length = es.size := by
  obtain ⟨ho, z, lo, vs, r, ob, es', ep', e1, c1, c2, c3, c4, c5⟩ := I.hok d _ hd
  rw [ho] at e1; cases e1
  rw [ed] at c2; cases c2
  refine ⟨vs, r, ⟨o, es, ho, c1, ed, c3, c4, c5⟩, ?_⟩
  have := c4.length
  rw [← this]; simp
theorem turn_vals {tg : Expr} {P : Program} {w : World} {K : PySem.W.Frag} (it d : Addr) (o : Obj) {es : Array DictEntry} {ep : Nat} (ed : o.data = .dict es ep) : Turn P w K tg (Itv o d) [it] it (fun i h => h.IsValIter it d i es.size ep) where
  mem := by simp
  obj := fun i h st b hb => by
    have e : b = it := by simpa using hb
    subst e
    obtain ⟨o, e, c, d⟩ := st
    exact ⟨o, e, fun v z => by rw [d] at z; cases z⟩
  keep := fun i h h' st k => st.at fun o e => k it (by simp) o e
  item := by
    intro X hP hw hK hc i pins s σ H E I hf st hg
    subst hP hw hK
    obtain ⟨kvs, kv, hd, hx⟩ := hg
    obtain ⟨vs, r, da, hl⟩ := I.frd hd ed
    obtain ⟨f0, f1, f2, f3, f4, f5⟩ := hf it (by simp)
    obtain ⟨q, hq, hr⟩ := Paired.at r hx
    rw [← hl] at st
    refine wpAny_pyNext_values_item st da (k := q.1) (v := q.2) hq fun h' st' sb => ?_
    have I1 : Inv X pins σ H { s with heap := h' } := I.turned (t' := s.toks) (fun b o hb e => (sb.2 b hb).trans e) f0 f1 f3 f4 f5
    obtain ⟨o', e', c', d'⟩ := id st'
    rw [hl] at st'
    refine ⟨q.2, rfl, go_of (s := { s with heap := h' }) e' c' d' (by decide) ⟨kv.2, H, I1, hr.2, ⟨rfl, fun kvs' hd' => ?_⟩, st', fun b hb => (hf b hb).1⟩⟩
    rw [hd] at hd'; cases hd'; exact ⟨kv, hx, rfl⟩
  done := by
    intro X hP hw hK hc i pins s σ H E I hf st hg
    subst hP hw hK
    obtain ⟨kvs, hd, hx⟩ := hg
    obtain ⟨vs, r, da, hl⟩ := I.frd hd ed
    obtain ⟨f0, f1, f2, f3, f4, f5⟩ := hf it (by simp)
    rw [← hl] at st
    have := KV.length r
    exact wpAny_pyNext_values_end (I.ok.hd hc) st da (List.getElem?_eq_none (by omega)) fun h' eb => ⟨rfl, I.turned (t' := s.toks) (fun b o hb e => eb b o hb e) f0 f1 f3 f4 f5⟩
  self := fun _ _ _ _ _ st h => wpAny_pyIter_valiter st h
end
section
variable {X : Cx} {tg : Expr}
def iDX (X : Cx) (J : Obj → Addr → It) (tl : TE) : TI := fun σ H R => ∃ Q : VK, tl σ H Q ∧ ∀ x H1, Q x H1 → ∃ d kvs, x = .ref d ∧ H1 d = some (.dK kvs) ∧ ∀ o, NF X d → R (J o d) (upd H1 d (.frz o (.dK kvs)))
theorem pi_vals {l : Expr} {tl : TE} {apos cpos : Pos} (hl : PE X l tl)
    (hbase : attributeBase l "values" X.env (eval l X.env) = eval l X.env := by rfl) (hline : (apos.endLine == cpos.line) = true := by rfl) : PI X tg (.Call (.Attribute l "values" apos) [] [] cpos) (iDX X Itv tl) := by
  intro pins s σ H R I h
  obtain ⟨Q, hq, h⟩ := h
  refine wpAny_Call_method0_late hbase hline (thn (hl pins s σ H _ I hq) fun v s1 ⟨x, H1, I1, r1, q1⟩ => ?_)
  obtain ⟨d, kvs, e, hd, q⟩ := h x H1 q1
  subst e
  cases r1
  obtain ⟨z, lo, vs, r, ob, es, ep, ho, c1, c2, c3, c4, c5⟩ := (show ObjOk X.prog X.w H1 s1.heap d (.dK kvs) from I1.hok d _ hd)
  have hsz : vs.length = es.size := by rw [← c4.length]; simp
  have da : s1.heap.DictAt (mixKind X.prog X.w) d vs ep := ⟨ob, es, ho, c1, c2, c3, c4, c5⟩
  refine ⟨"dict", "dict.values", F.plainAttrs_dict, F.slot_dict_values, F.type_dict_values, da.dictOf.typeIs, fun a e2 => ?_, Calls.callWith_builtin rfl (PySem.evalArgs_none ?_)⟩
  · cases e2
    exact ⟨ob, ho, c1.2.1⟩
  refine call_meetsIn F.slot_dict_values da.dictOf.typeIs F.entry_dict_values (F.args_dict_values_1 _) (meets_dict_values (mixKind X.prog X.w) d lo) ⟨⟨vs, da.dictOf⟩, ?_⟩
  have I2 := (I1.freeze hd ho).kept (t' := s1.toks) (h' := s1.heap.push { cls := .type "dict_values", data := .fields #[.ref d] }) fun b o e => Heap.get?_push_of_some _ e
  show wpAny _ _ _ _ _ { s1 with heap := s1.heap.push { cls := .type "dict_values", data := .fields #[.ref d] } }
  refine wpAny_pyIter_values (s := { s1 with heap := s1.heap.push { cls := .type "dict_values", data := .fields #[.ref d] } }) ⟨_, Heap.get?_push_size _ rfl, rfl, rfl⟩ (da.push _) ?_
  rw [hsz]
  refine ⟨_, [(s1.heap.push { cls := .type "dict_values", data := .fields #[.ref d] }).objs.size], _, _, _, rfl, I2.kept (t' := s1.toks) fun b o e => Heap.get?_push_of_some _ e, turn_vals _ d ob c2, ⟨_, Heap.get?_push_size _ rfl, rfl, rfl⟩, fun b hb => ?_, q ob (I1.nf hd)⟩
  have e : b = (s1.heap.push { cls := .type "dict_values", data := .fields #[.ref d] }).objs.size := by simpa using hb
  subst e
  exact I2.fpOk (Nat.le_refl _) (I2.hok.fresh (Nat.le_refl _))
def endsT (N : Addr → Prop) (D : Ends) : Ends where
  nx := fun σ H => ∃ d o kvs, N d ∧ H d = some (.frz o (.dK kvs)) ∧ D.nx σ (upd H d (.dK kvs))
  rt := fun v H => ∃ d o kvs, N d ∧ H d = some (.frz o (.dK kvs)) ∧ D.rt v (upd H d (.dK kvs))
  bk := fun σ H => ∃ d o kvs, N d ∧ H d = some (.frz o (.dK kvs)) ∧ D.bk σ (upd H d (.dK kvs))
  ct := fun σ H => ∃ d o kvs, N d ∧ H d = some (.frz o (.dK kvs)) ∧ D.ct σ (upd H d (.dK kvs))
def tForD (J : Obj → Addr → It) (tl : TE) (g : TG) (tb : TS) : TS := fun D σ H => tl σ H fun x H1 => ∃ d kvs, x = .ref d ∧ H1 d = some (.dK kvs) ∧ ∀ (o : Obj) (N : Addr → Prop), N d →
  ∃ W : Nat → Nat → St → Hp → Prop, (∃ m, W 0 m σ (upd H1 d (.frz o (.dK kvs)))) ∧ ∀ i m σ H, W i m σ H →
    ((J o d).stop i H ∧ (endsT N D).nx σ H) ∨ ((J o d).go i H ∧ ∃ M : St → Hp → Prop, (∀ σ' H', M σ' H' → ∃ m', m' < m ∧ W (i + 1) m' σ' H') ∧ ∀ x H', (J o d).yld i H x H' → g x σ H' fun σ2 H2 => tb { endsT N D with nx := M, ct := M, bk := (endsT N D).nx } σ2 H2)
theorem SP.thaw {pins : List (Addr × Obj)} {D : Ends} {f : Flow} {s : Shared} (h : SP X pins (endsT (NF X) D) f s) : SP X pins D f s := by
  cases f with
  | next => obtain ⟨σ, H, I, d, o, kvs, nf, e, q⟩ := h; exact ⟨σ, _, I.thaw e nf, q⟩
  | brk => obtain ⟨σ, H, I, d, o, kvs, nf, e, q⟩ := h; exact ⟨σ, _, I.thaw e nf, q⟩
  | cont => obtain ⟨σ, H, I, d, o, kvs, nf, e, q⟩ := h; exact ⟨σ, _, I.thaw e nf, q⟩
  | ret v => obtain ⟨x, σ, H, I, r, d, o, kvs, nf, e, q⟩ := h; exact ⟨x, σ, _, I.thaw e nf, r, q⟩
theorem ps_forD {J : Obj → Addr → It} {iter : Expr} {body : List Stmt} {tl : TE} {g : TG} {tb : TS} {pos : Pos} (hp : PassesOwn (model X.prog X.w) X.A X.env X.xe) (hc : X.calm = true) (hi : PI X tg iter (iDX X J tl)) (hg : PG X tg g) (hb : PSs X body tb)
    (hs : ∀ x, foldedSetIterable iter X.env x = pure x := by intro _; rfl) : PS X (.For tg iter body [] pos) (tForD J tl g tb) := by
  intro pins s σ H D I h
  exact thn (ps_for hp hc hi hg hb hs pins s σ H (endsT (NF X) D) I ⟨_, h, fun x H1 ⟨d, kvs, e, hd, r⟩ => ⟨d, kvs, e, hd, fun o nf => r o _ nf⟩⟩) fun f s' q => SP.thaw q
variable {elt iter : Expr} {ifs : List Expr} {scope : Scope} {pos : Pos} {nT : Nat} {js : List Nat} {N' : List Str} {g : TG} {tt : TT} {te : TE}
def tCompD (J : Obj → Addr → It) (tl : TE) (nT : Nat) (js : List Nat) (g : TG) (tt : TT) (te : TE) : TE := fun σ H Q => tl σ H fun x H1 => ∃ d kvs, x = .ref d ∧ H1 d = some (.dK kvs) ∧ ∀ (o : Obj) (N : Addr → Prop), N d →
  compRd nT js g tt te σ (fun l H' => ∃ d o kvs, N d ∧ H' d = some (.frz o (.dK kvs)) ∧ Q (.ref l) (upd H' d (.dK kvs))) (J o d) (upd H1 d (.frz o (.dK kvs)))
theorem pe_compD {J : Obj → Addr → It} {tl : TE} (hc : X.calm = true) (S : CompScope X scope nT js N') (hi : PI X tg iter (iDX X J tl))
    (hg : ∀ cells C s H fp, PG (cxComp X scope N' cells C s H fp) tg g) (ht : ∀ cells C s H fp, PIfs (cxComp X scope N' cells C s H fp) ifs tt) (he : ∀ cells C s H fp, PE (cxComp X scope N' cells C s H fp) elt te)
    (hs : ∀ x, foldedSetIterable iter X.env x = pure x := by intro _; rfl) : PE X (.ListComp elt [⟨tg, iter, ifs, 0⟩] scope pos) (tCompD J tl nT js g tt te) := by
  intro pins s σ H Q I h
  refine thn (pe_comp hc S hi hg ht he hs pins s σ H (fun v H' => ∃ d o kvs, NF X d ∧ H' d = some (.frz o (.dK kvs)) ∧ Q v (upd H' d (.dK kvs))) I ⟨_, h, fun x H1 ⟨d, kvs, e, hd, r⟩ => ⟨d, kvs, e, hd, fun o nf => r o _ nf⟩⟩) fun u s' ⟨v, H', I', r', d, o, kvs, nf, e, q⟩ => ⟨v, _, I'.thaw e nf, r', q⟩
end
end L2
set_option maxRecDepth 100000
namespace L2
open PySem PySem.Spec PyProof.Rows
theorem vals_at {xs : List V} : ∀ {us : List Value}, xs.length = us.length → (∀ (j : Nat) (x : V) (u : Value), xs[j]? = some x → us[j]? = some u → RelV x u) → Vals xs us := by
  induction xs with
  | nil => intro us hl h; cases us with
    | nil => exact .nil
    | cons u us => cases hl
  | cons x xs ih => intro us hl h; cases us with
    | nil => cases hl
    | cons u us => exact .cons (h 0 x u rfl rfl) (ih (by simpa using hl) fun j y v hy hv => h (j + 1) y v (by simpa using hy) (by simpa using hv))
def sgn (x : Str) (i : Nat) : Str := ⟨#[x.cps.getD i 0]⟩
def Its (x : Str) : It := ⟨fun i _ => i < x.cps.size, fun i H v H' => H' = H ∧ v = .str (sgn x i), fun i _ => i = x.cps.size⟩
theorem turn_str {tg : Expr} {P : Program} {w : World} {K : PySem.W.Frag} (it : Addr) (x : Str) (t : Tok) (ty : String) (hty : ["enumerate", "zip", "dict_itemiterator", "dict_reverseitemiterator", "odict_iterator", "itertools.zip_longest", "itertools.pairwise"].contains ty = false)
    (W : ∀ A : Around, A.handled = none → Walks P w A it [it] [it] x.cps.size (SignAt x) (fun i h => h.IsStrIter it ty x t i))
    (hself : ∀ (A : Around) (i : Nat) (s : Shared) (Q : Value → Shared → Prop) (E : Value → Shared → Prop), s.heap.IsStrIter it ty x t i → Q (.ref it) s → wpAny (model P w) A (pyIter (.ref it)) Q E s) : Turn P w K tg (Its x) [it] it (fun i h => h.IsStrIter it ty x t i) where
  mem := by simp
  obj := fun i h st b hb => by
    have e : b = it := by simpa using hb
    subst e
    obtain ⟨o, e, c, d⟩ := st
    exact ⟨o, e, fun v z => by rw [d] at z; cases z⟩
  keep := fun i h h' st k => by
    obtain ⟨o, e, r⟩ := st
    exact ⟨o, k it (by simp) o e, r⟩
  item := by
    intro X hP hw hK hc i pins s σ H E I hf st hg
    subst hP hw hK
    obtain ⟨f0, f1, f2, f3, f4, f5⟩ := hf it (by simp)
    refine (W X.A (I.ok.hd hc)).item i s _ _ hg st fun v h' tk hv st' kk => ?_
    obtain ⟨c, u, hcx, rfl⟩ := hv
    have I1 : Inv X pins σ H { s with heap := h', toks := tk } := I.turned (fun b o hb e => kk b o (by simpa using hb) e) f0 f1 f3 f4 f5
    obtain ⟨o', e', c', d'⟩ := id st'
    refine ⟨_, rfl, go_of (s := { s with heap := h', toks := tk }) e' c' d' hty ⟨.str (sgn x i), H, I1, ⟨u, ?_⟩, ⟨rfl, rfl⟩, st', fun b hb => (hf b hb).1⟩⟩
    unfold sgn
    rw [Array.getD_eq_getD_getElem?, hcx]
    rfl
  done := by
    intro X hP hw hK hc i pins s σ H E I hf st hg
    subst hP hw hK
    obtain ⟨f0, f1, f2, f3, f4, f5⟩ := hf it (by simp)
    have hi : i = x.cps.size := hg
    subst hi
    exact (W X.A (I.ok.hd hc)).done s _ _ st fun h' tk kk => ⟨rfl, I.turned (t' := tk) (fun b o hb e => kk b o (by simpa using hb) e) f0 f1 f3 f4 f5⟩
  self := fun A i s Q E st h => hself A i s Q E st h
section
variable {X : Cx} {tg : Expr}
def iStr (tl : TE) : TI := fun σ H R => tl σ H fun v H1 => ∃ x, v = .str x ∧ R (Its x) H1
theorem pi_str {l : Expr} {tl : TE} (hl : PE X l tl) : PI X tg l (iStr tl) := by
  intro pins s σ H R I h
  refine thn (hl pins s σ H _ I h) fun v s1 ⟨z, H1, I1, r1, q1⟩ => ?_
  obtain ⟨x, rfl, q⟩ := q1
  obtain ⟨t, rfl⟩ := r1
  have fp : ∀ (b : Addr), b ∈ [s1.heap.objs.size] → FpOk X pins H1 b := fun b hb => by
    have e : b = s1.heap.objs.size := by simpa using hb
    subst e
    exact I1.fpOk (Nat.le_refl _) (I1.hok.fresh (Nat.le_refl _))
  cases ha : x.cps.all (· < 128)
  · refine wpAny_pyIter_wide ha ?_
    exact ⟨s1.heap.objs.size, [s1.heap.objs.size], _, _, H1, rfl, I1.kept (t' := s1.toks) fun b o e => Heap.get?_push_of_some _ e, turn_str _ x t "str_iterator" (by decide) (fun A' hA => Walks.strWide hA _ x t) (fun A i s Q E st h => wpAny_pyIter_striter_wide st h), ⟨_, Heap.get?_push_size _ rfl, rfl, rfl⟩, fp, q⟩
  · refine wpAny_pyIter_ascii ha ?_
    exact ⟨s1.heap.objs.size, [s1.heap.objs.size], _, _, H1, rfl, I1.kept (t' := s1.toks) fun b o e => Heap.get?_push_of_some _ e, turn_str _ x t "str_ascii_iterator" (by decide) (fun A' hA => Walks.strAscii hA _ x t) (fun A i s Q E st h => wpAny_pyIter_striter_ascii st h), ⟨_, Heap.get?_push_size _ rfl, rfl, rfl⟩, fp, q⟩
theorem all_range {bs : List Bool} : (List.range bs.length).all (fun i => bs.getD i true) = bs.all id := by
  rw [Bool.eq_iff_iff]
  simp only [List.all_eq_true, List.mem_range]
  constructor
  · intro h b hb
    obtain ⟨i, hi, rfl⟩ := List.getElem_of_mem hb
    have := h i hi
    rwa [List.getD_eq_getElem?_getD, List.getElem?_eq_getElem hi] at this
  · intro h i hi
    rw [List.getD_eq_getElem?_getD, List.getElem?_eq_getElem hi]
    exact h _ (List.getElem_mem hi)
theorem call_allB (K : PySem.W.Frag) (hc : X.calm = true) (hK : X.K = K := by rfl) : CallR X (.builtin "all") (fun xs H Q => ∃ (p : Addr) (bs : List Bool), xs = [.ref p] ∧ SqL K H p (bs.map V.bl) ∧ Q (.bl (bs.all id)) H) := by
  subst hK
  intro pins s σ H xs us Q I r h
  obtain ⟨p, bs, rfl, hq, q⟩ := h
  obtain ⟨u, rfl, r1⟩ := vals1 r
  cases r1
  obtain ⟨its, rv, pl, hz⟩ := I.list hq
  have hlen : its.length = bs.length := by have := rv.length; rw [List.length_map] at this; omega
  have hpn : p ≠ s.heap.objs.size := by
    obtain ⟨_, _, e, _⟩ := pl
    exact Nat.ne_of_lt (Heap.lt_size e)
  refine call_all_walk ?_
  refine wpAny_pyIter_list pl.isList ?_
  refine ⟨s.heap.objs.size, [s.heap.objs.size, p], [s.heap.objs.size], its.toArray.size, _, _, fun i => bs.getD i true, rfl, Walks.list (A := X.A.in1) (I.ok.hd hc) _ p hpn its.toArray, ⟨⟨_, Heap.get?_push_size _ rfl, rfl, rfl⟩, pl.isList.push _⟩, fun i v s' Q' E' hv hQ => ?_, fun h' tk hk => ?_⟩
  · have hv : its[i]? = some v := by simpa using hv
    have hi : i < bs.length := by rw [← hlen]; exact (List.getElem?_eq_some_iff.mp hv).1
    have hb : (bs.map V.bl)[i]? = some (V.bl bs[i]) := by rw [List.getElem?_map, List.getElem?_eq_getElem hi]; rfl
    obtain ⟨w1, e1, r1⟩ := rv.get hb
    rw [hv] at e1; cases e1
    obtain rfl : v = Value.bool bs[i] := r1
    dsimp only at hQ
    rw [List.getD_eq_getElem?_getD, List.getElem?_eq_getElem hi] at hQ
    exact wpAny_truthy_bool hQ
  · have e : its.toArray.size = bs.length := by simp [hlen]
    rw [e, all_range]
    refine ⟨.bl (bs.all id), H, I.kept (t' := tk) fun b o e => hk b o (fun z => ?_) (Heap.get?_push_of_some _ e), rfl, q⟩
    have z' : b = s.heap.objs.size := by simpa using z
    exact absurd (Heap.lt_size e) (by rw [z']; exact Nat.lt_irrefl _)
theorem call_list_dK (hc : X.calm = true) : CallR X (.type "list") (fun xs H Q => ∃ d kvs, xs = [.ref d] ∧ H d = some (.dK kvs) ∧ NewQ H (.lst (kvs.map fun kv => kV kv.1)) Q) := by
  intro pins s σ H xs us Q I r h
  obtain ⟨d, kvs, rfl, hd, q⟩ := h
  obtain ⟨u, rfl, rx⟩ := vals1 r
  cases rx
  obtain ⟨z, lo, vs, rel, o, es, ep, ho, hx, hdat, hk, hp, hnd⟩ := (show ObjOk X.prog X.w H s.heap d (.dK kvs) from I.hok d _ hd)
  have hl : es.size = vs.length := by rw [← hp.length]; simp
  have hkl := KV.length rel
  refine PySem.W.kdl_call (raw_src lo) (I.ok.hd hc) ⟨o, ho, hx, hdat⟩ (by rw [hl, ← hkl]; exact z) fun h' tk acc c keep hnew hacc => ?_
  have hval : Vals (kvs.map fun kv => kV kv.1) acc.toList := by
    refine vals_at (by have h1 := hacc.1; rw [← Array.length_toList] at h1; rw [List.length_map, h1, hl, hkl]) fun j x u' hx hu => ?_
    rw [List.getElem?_map] at hx
    obtain ⟨kv, ekv, rfl⟩ := Option.map_eq_some_iff.mp hx
    obtain ⟨q', hq', hr'⟩ := Paired.at rel ekv
    have hj : j < es.size := by rw [hl]; exact (List.getElem?_eq_some_iff.mp hq').1
    have h1 : (es[j]?).map (·.key) = some u' := hacc.2 j u' (by rw [← Array.getElem?_toList]; exact hu)
    rw [Array.getElem?_eq_getElem hj] at h1
    have h2 := (Pairs.get? hp (e := es[j]) (k := q'.1) (v := q'.2) (by rw [Array.getElem?_toList, Array.getElem?_eq_getElem hj]) hq').1
    have : es[j].key = u' := Option.some.inj h1
    rw [← this, hr'.1]
    exact key_rel h2
  refine ⟨.ref s.heap.objs.size, _, I.laid (t' := tk) keep (Nat.le_refl _) (show ObjOk X.prog X.w _ h' _ (.lst (kvs.map fun kv => kV kv.1)) from ⟨by rw [List.length_map]; exact z, acc.toList, c, hval, ?_⟩), rfl, q.at (I.hok.fresh (Nat.le_refl _))⟩
  simpa using hnew
theorem call_len_dK : CallR X (.builtin "len") (fun xs H Q => ∃ d kvs, xs = [.ref d] ∧ H d = some (.dK kvs) ∧ Q (.int kvs.length) H) := by
  intro pins s σ H xs us Q I r h
  obtain ⟨d, kvs, rfl, hd, q⟩ := h
  obtain ⟨u, rfl, rx⟩ := vals1 r
  cases rx
  obtain ⟨z, lo, vs, rel, o, es, ep, ho, hx, hdat, hk, hp, hnd⟩ := (show ObjOk X.prog X.w H s.heap d (.dK kvs) from I.hok d _ hd)
  have hl : es.size = kvs.length := by rw [KV.length rel, ← hp.length]; simp
  refine raw_len lo ⟨o, ho, hx, hdat⟩ (by rw [hl]; have : kvs.length ≤ 2 ^ 24 := z; omega) ?_
  rw [hl]
  exact ⟨.int kvs.length, H, I.tok _, ⟨_, rfl⟩, q⟩
variable {k : Nat} {C : Addr} {ps : List Str} {sp : Sp} {x m : Str} {p pos apos : Pos} {o : Expr} {ta : TE}
theorem pe_meth0D {pl : Sem Bool} (he : PE X o ta) (D : Dm X.prog X.w X.K X.mg X.base k C m ps sp) (hr : Room k X.A)
    (ht : eval (.Call (.Attribute o m apos) [] [] pos) X.env = (do
      let ov ← eval o X.env
      standAt apos.atName
      let (f, first) ← holding [ov] (getMethod ov m pl)
      callWith pos f first (backTo pos (starEach [] X.env)) (backToKw pos (keywordEach [] X.env))) := by rfl) :
    PE X (.Call (.Attribute o m apos) [] [] pos) (tMeth C m sp [] E0 ta tNil) := by
  obtain ⟨f, fd, cl, hm, b, F⟩ := D
  exact pe_meth0 he cl hm F hr b .nil pass0 ht
theorem pe_make0D (D : Dk X.prog X.w X.K X.mg X.base k x C ps sp) (hr : Room (k + 1) X.A) (hg : Gl X x) (hdb : (x == ("__debug__" : Str)) = false := by decide) :
    PE X (.Call (.Name x p) [] [] pos) (tMake C sp [] E0 tNil) := by
  obtain ⟨f, fd, hm, M, b, F⟩ := D
  exact pe_make0 M F hr hg hm b .nil pass0 hdb
def tMethC (Cs : Addr → Prop) (m : Str) (sp : Addr → Sp) (ta : TE) : TE := fun σ H Q => ta σ H fun x H1 => ∃ a C dx fs, x = .ref a ∧ Cs C ∧ H1 a = some (.ins C dx fs) ∧ fs.lookup m = none ∧ sp C [x] H1 Q E0
theorem pe_meth0C {pl : Sem Bool} {Cs : Addr → Prop} {sp : Addr → Sp} (he : PE X o ta) (D : ∀ C, Cs C → Dm X.prog X.w X.K X.mg X.base k C m ps (sp C)) (hr : Room k X.A)
    (ht : eval (.Call (.Attribute o m apos) [] [] pos) X.env = (do
      let ov ← eval o X.env
      standAt apos.atName
      let (f, first) ← holding [ov] (getMethod ov m pl)
      callWith pos f first (backTo pos (starEach [] X.env)) (backToKw pos (keywordEach [] X.env))) := by rfl) :
    PE X (.Call (.Attribute o m apos) [] [] pos) (tMethC Cs m sp ta) := by
  intro pins s σ H Q I h
  refine PySem.W.methodCall_KW (pl := pl) (thn (he pins s σ H _ I h) fun u s1 ⟨x, H1, I1, rx, a, C, dx, fs, ex, hC, ea, l, q⟩ => ?_) ht
  subst ex
  obtain rfl : u = Value.ref a := rx
  obtain ⟨f, fd, cl, hm, b, F⟩ := D C hC
  refine getmeth_ok I1 ea cl hm l ?_
  exact PySem.W.callWith_K0 (first := [.ref a]) I1.kIn hm.kp (run_fn (us := [.ref a]) (vs := [.ref a]) (dvs := []) F hr b .nil pass0 I1 (.cons rfl .nil) q)
end
end L2
set_option maxRecDepth 100000
namespace L2
open PySem PySem.Spec PyProof.Rows
def Itp (pr : Key × V → V) (o : Obj) (d : Addr) : It :=
  ⟨fun i H => ∃ kvs kv, H d = some (.frz o (.dK kvs)) ∧ kvs[i]? = some kv, fun i H x H' => H' = H ∧ ∀ kvs, H d = some (.frz o (.dK kvs)) → ∃ kv, kvs[i]? = some kv ∧ x = pr kv, fun i H => ∃ kvs, H d = some (.frz o (.dK kvs)) ∧ kvs.length ≤ i⟩
theorem itv_eq : Itv = Itp (·.2) := rfl
theorem same_thaw {H H' : Hp} {d : Addr} {o : Obj} {kvs : List (Key × V)} (hd : H d = some (.dK kvs)) (e : Same (upd H d (.frz o (.dK kvs))) H') : Same H (upd H' d (.dK kvs)) := fun b u hb => by
  by_cases z : b = d
  · subst z; rw [hd] at hb; cases hb; exact upd_same
  · rw [upd_ne z]
    exact e b u (by rw [upd_ne z]; exact hb)
theorem thaw_same {H : Hp} {d : Addr} {o : HO} {kvs : List (Key × V)} (hd : H d = some (.dK kvs)) : upd (upd H d o) d (.dK kvs) = H := by
  funext b
  unfold upd
  by_cases z : b = d
  · subst z; rw [if_pos rfl, hd]
  · rw [if_neg z, if_neg z]
section
variable {pr : Key × V → V} {o : Obj} {d : Addr} {kvs : List (Key × V)}
theorem for_dict {g : TG} {tb : TS} {D : Ends} {σ : St} {H : Hp} (Pv : Nat → St → Hp → Prop) (h0 : Pv 0 σ H) (hl : ∀ i σ H, i ≤ kvs.length → Pv i σ H → H d = some (.frz o (.dK kvs)))
    (hs : ∀ (i : Nat) (kv : Key × V) σ H, kvs[i]? = some kv → Pv i σ H → g (pr kv) σ H fun σ2 H2 => tb { D with nx := Pv (i + 1), ct := Pv (i + 1), bk := D.nx } σ2 H2) (hd : ∀ σ H, Pv kvs.length σ H → D.nx σ H) :
    ∃ W : Nat → Nat → St → Hp → Prop, (∃ m, W 0 m σ H) ∧ ∀ i m σ H, W i m σ H →
      ((Itp pr o d).stop i H ∧ D.nx σ H) ∨ ((Itp pr o d).go i H ∧ ∃ N : St → Hp → Prop, (∀ σ' H', N σ' H' → ∃ m', m' < m ∧ W (i + 1) m' σ' H') ∧ ∀ x H', (Itp pr o d).yld i H x H' → g x σ H' fun σ2 H2 => tb { D with nx := N, ct := N, bk := D.nx } σ2 H2) := by
  refine ⟨fun i m σ H => m = kvs.length - i ∧ i ≤ kvs.length ∧ Pv i σ H, ⟨kvs.length, by simp, Nat.zero_le _, h0⟩, ?_⟩
  rintro i m σ H ⟨rfl, hi, p⟩
  have q := hl i σ H hi p
  by_cases hlt : i < kvs.length
  · refine .inr ⟨⟨kvs, kvs[i], q, by simp [hlt]⟩, Pv (i + 1), fun σ' H' p' => ⟨kvs.length - (i + 1), by omega, rfl, hlt, p'⟩, fun x H' y => ?_⟩
    obtain ⟨rfl, y⟩ := y
    obtain ⟨kv, e1, rfl⟩ := y kvs q
    exact hs i kv σ H' e1 p
  · have e : i = kvs.length := by omega
    subst e
    exact .inl ⟨⟨kvs, q, Nat.le_refl _⟩, hd σ H p⟩
variable {js : List Nat} {tt : TT} {te : TE} {σ : St} {F : Addr → Hp → Prop} {H : Hp}
theorem filter_succ {α : Type} (keep : Nat → Bool) (g : Nat → α) (i : Nat) : ((List.range (i + 1)).filter keep).map g = ((List.range i).filter keep).map g ++ (if keep i = true then [g i] else []) := by
  rw [List.range_succ, List.filter_append, List.map_append]
  by_cases c : keep i = true
  · simp [c]
  · simp [c]
theorem filter_short {α : Type} (keep : Nat → Bool) (g : Nat → α) (i : Nat) : (((List.range i).filter keep).map g).length ≤ i := by
  rw [List.length_map]
  exact Nat.le_trans (List.length_filter_le _ _) (by rw [List.length_range]; exact Nat.le_refl _)
theorem compG_dict (keep : Nat → Bool) (g : Nat → V) (hfr : H d = some (.frz o (.dK kvs))) (hz : kvs.length ≤ 1000)
    (hs : ∀ (i : Nat) (kv : Key × V) H2, kvs[i]? = some kv → Same H H2 → tt (some (pr kv) :: caps σ js) H2 fun b H4 => if b = true then te (some (pr kv) :: caps σ js) H4 fun v H5 => keep i = true ∧ v = g i ∧ Same H2 H5 else keep i = false ∧ Same H2 H4)
    (hd : ∀ l H', H l = none → Same H H' → H' l = some (.lst (((List.range kvs.length).filter keep).map g)) → F l H') : compRd 1 js (gName 0) tt te σ F (Itp pr o d) H := by
  intro l hl0
  refine ⟨fun i m σ' H2 => m = kvs.length - i ∧ i ≤ kvs.length ∧ (∃ o, σ' = o :: caps σ js) ∧ Same H H2 ∧ H2 l = some (.lst (((List.range i).filter keep).map g)), ⟨kvs.length, by simp, Nat.zero_le _, ⟨none, rfl⟩, same_upd (Same.refl _) hl0, upd_same⟩, ?_⟩
  rintro i m σ' H2 ⟨rfl, hi, ⟨o', rfl⟩, e, hl⟩
  have q := e _ _ hfr
  by_cases hlt : i < kvs.length
  · refine .inr ⟨⟨kvs, kvs[i], q, by simp [hlt]⟩, fun x H3 y => ?_⟩
    obtain ⟨rfl, y⟩ := y
    obtain ⟨kv, e1, rfl⟩ := y kvs q
    refine ⟨fun H4 => keep i = false ∧ Same H3 H4, fun v H5 => keep i = true ∧ v = g i ∧ Same H3 H5, fun H4 ⟨k4, e4⟩ => ⟨_, ?_, rfl, hlt, ⟨_, rfl⟩, e.trans e4, ?_⟩, fun v H5 ⟨k5, ev, e5⟩ => ?_, hs i kv H3 e1 e⟩
    · omega
    · rw [filter_succ, k4]; simpa using e4 _ _ hl
    · subst ev
      refine ⟨_, e5 _ _ hl, Nat.lt_of_le_of_lt (filter_short keep g i) (Nat.lt_of_lt_of_le hlt (Nat.le_trans hz (by decide))), _, ?_, rfl, hlt, ⟨_, rfl⟩, same_new (e.trans e5) hl0, ?_⟩
      · omega
      · rw [upd_same, filter_succ, k5]; rfl
  · have ei : i = kvs.length := by omega
    subst ei
    exact .inl ⟨⟨kvs, q, Nat.le_refl _⟩, hd l H2 hl0 e hl⟩
theorem compG_list {K : PySem.W.Frag} {a : Addr} {xs : List V} (keep : Nat → Bool) (g : Nat → V) (ha : H a = some (.lst xs)) (hz : xs.length ≤ 1000)
    (hs : ∀ (i : Nat) (x : V) H2, xs[i]? = some x → Same H H2 → tt (some x :: caps σ js) H2 fun b H4 => if b = true then te (some x :: caps σ js) H4 fun v H5 => keep i = true ∧ v = g i ∧ Same H2 H5 else keep i = false ∧ Same H2 H4)
    (hd : ∀ l H', H l = none → Same H H' → H' l = some (.lst (((List.range xs.length).filter keep).map g)) → F l H') : compRd 1 js (gName 0) tt te σ F (Itl K a) H := by
  intro l hl0
  refine ⟨fun i m σ' H2 => m = xs.length - i ∧ i ≤ xs.length ∧ (∃ o, σ' = o :: caps σ js) ∧ Same H H2 ∧ H2 l = some (.lst (((List.range i).filter keep).map g)), ⟨xs.length, by simp, Nat.zero_le _, ⟨none, rfl⟩, same_upd (Same.refl _) hl0, upd_same⟩, ?_⟩
  rintro i m σ' H2 ⟨rfl, hi, ⟨o', rfl⟩, e, hl⟩
  have q : SqL K H2 a xs := SqL.of (e _ _ ha)
  by_cases hlt : i < xs.length
  · refine .inr ⟨⟨xs, xs[i], q, by simp [hlt]⟩, fun x H3 y => ?_⟩
    obtain ⟨rfl, y⟩ := y
    refine ⟨fun H4 => keep i = false ∧ Same H3 H4, fun v H5 => keep i = true ∧ v = g i ∧ Same H3 H5, fun H4 ⟨k4, e4⟩ => ⟨_, ?_, rfl, hlt, ⟨_, rfl⟩, e.trans e4, ?_⟩, fun v H5 ⟨k5, ev, e5⟩ => ?_, hs i x H3 (y xs q) e⟩
    · omega
    · rw [filter_succ, k4]; simpa using e4 _ _ hl
    · subst ev
      refine ⟨_, e5 _ _ hl, Nat.lt_of_le_of_lt (filter_short keep g i) (Nat.lt_of_lt_of_le hlt (Nat.le_trans hz (by decide))), _, ?_, rfl, hlt, ⟨_, rfl⟩, same_new (e.trans e5) hl0, ?_⟩
      · omega
      · rw [upd_same, filter_succ, k5]; rfl
  · have ei : i = xs.length := by omega
    subst ei
    exact .inl ⟨⟨xs, q, Nat.le_refl _⟩, hd l H2 hl0 e hl⟩
theorem range_filter_map {α β : Type} (xs : List α) (keep : α → Bool) (g : α → β) (kp : Nat → Bool) (gi : Nat → β) (h : ∀ (i : Nat) (x : α), xs[i]? = some x → kp i = keep x ∧ gi i = g x) :
    ((List.range xs.length).filter kp).map gi = (xs.filter keep).map g := by
  have : ∀ n, n ≤ xs.length → ((List.range n).filter kp).map gi = ((xs.take n).filter keep).map g := by
    intro n
    induction n with
    | zero => intro _; rfl
    | succ n ih =>
      intro hn
      have hx : xs[n]? = some xs[n] := List.getElem?_eq_getElem (by omega)
      obtain ⟨h1, h2⟩ := h n _ hx
      rw [filter_succ, ih (by omega), List.take_add_one, hx, List.filter_append, List.map_append, h1]
      congr 1
      by_cases c : keep xs[n] = true
      · simp [c, h2]
      · simp [c]
  rw [this _ (Nat.le_refl _), List.take_of_length_le (Nat.le_refl _)]
end
end L2
set_option maxRecDepth 100000
namespace L2
open PySem PySem.Spec PyProof.Rows
abbrev G4 (K : PySem.W.Frag) : TG := gTup K 4 (gCons (gName 0) (gCons (gName 1) (gCons (gName 2) (gCons (gName 3) gNil))))
section
variable {K : PySem.W.Frag} {js : List Nat} {tt : TT} {te : TE} {σ : St} {F : Addr → Hp → Prop} {H : Hp}
theorem compG4_list {a : Addr} {xs : List V} (keep : Nat → Bool) (g : Nat → V) (ha : H a = some (.lst xs)) (hz : xs.length ≤ 1000)
    (hf : ∀ (i : Nat) (x : V), xs[i]? = some x → ∃ p x1 x2 x3 x4, x = .ref p ∧ H p = some (.tup [x1, x2, x3, x4]))
    (hs : ∀ (i : Nat) (p : Addr) (x1 x2 x3 x4 : V) H2, xs[i]? = some (.ref p) → H p = some (.tup [x1, x2, x3, x4]) → Same H H2 → tt (some x1 :: some x2 :: some x3 :: some x4 :: caps σ js) H2 fun b H4 =>
      if b = true then te (some x1 :: some x2 :: some x3 :: some x4 :: caps σ js) H4 fun v H5 => keep i = true ∧ v = g i ∧ Same H2 H5 else keep i = false ∧ Same H2 H4)
    (hd : ∀ l H', H l = none → Same H H' → H' l = some (.lst (((List.range xs.length).filter keep).map g)) → F l H') : compRd 4 js (G4 K) tt te σ F (Itl K a) H := by
  intro l hl0
  refine ⟨fun i m σ' H2 => m = xs.length - i ∧ i ≤ xs.length ∧ (∃ o1 o2 o3 o4, σ' = o1 :: o2 :: o3 :: o4 :: caps σ js) ∧ Same H H2 ∧ H2 l = some (.lst (((List.range i).filter keep).map g)), ⟨xs.length, by simp, Nat.zero_le _, ⟨none, none, none, none, rfl⟩, same_upd (Same.refl _) hl0, upd_same⟩, ?_⟩
  rintro i m σ' H2 ⟨rfl, hi, ⟨o1, o2, o3, o4, rfl⟩, e, hl⟩
  have q : SqL K H2 a xs := SqL.of (e _ _ ha)
  by_cases hlt : i < xs.length
  · refine .inr ⟨⟨xs, xs[i], q, by simp [hlt]⟩, fun x H3 y => ?_⟩
    obtain ⟨rfl, y⟩ := y
    have ex := y xs q
    obtain ⟨p, x1, x2, x3, x4, rfl, hp⟩ := hf i x ex
    refine ⟨p, [x1, x2, x3, x4], rfl, SqT.of (e _ _ hp), rfl, x1, [x2, x3, x4], rfl, x2, [x3, x4], rfl, x3, [x4], rfl, x4, [], rfl, rfl, ?_⟩
    refine ⟨fun H4 => keep i = false ∧ Same H3 H4, fun v H5 => keep i = true ∧ v = g i ∧ Same H3 H5, fun H4 ⟨k4, e4⟩ => ⟨_, ?_, rfl, hlt, ⟨_, _, _, _, rfl⟩, e.trans e4, ?_⟩, fun v H5 ⟨k5, ev, e5⟩ => ?_, hs i p x1 x2 x3 x4 H3 ex hp e⟩
    · omega
    · rw [filter_succ, k4]; simpa using e4 _ _ hl
    · subst ev
      refine ⟨_, e5 _ _ hl, Nat.lt_of_le_of_lt (filter_short keep g i) (Nat.lt_of_lt_of_le hlt (Nat.le_trans hz (by decide))), _, ?_, rfl, hlt, ⟨_, _, _, _, rfl⟩, same_new (e.trans e5) hl0, ?_⟩
      · omega
      · rw [upd_same, filter_succ, k5]; rfl
  · have ei : i = xs.length := by omega
    subst ei
    exact .inl ⟨⟨xs, q, Nat.le_refl _⟩, hd l H2 hl0 e hl⟩
theorem compP4_dict {o : Obj} {d : Addr} {kvs : List (Key × V)} (Pz : Nat → Hp → V → Prop) (mono : ∀ i H H' v, Same H H' → Pz i H v → Pz i H' v) (hfr : H d = some (.frz o (.dK kvs))) (hz : kvs.length ≤ 1000)
    (hf : ∀ (i : Nat) (kv : Key × V), kvs[i]? = some kv → ∃ p x1 x2 x3 x4, kv.2 = .ref p ∧ H p = some (.tup [x1, x2, x3, x4]))
    (hs : ∀ (i : Nat) (kv : Key × V) (p : Addr) (x1 x2 x3 x4 : V) H2, kvs[i]? = some kv → kv.2 = .ref p → H p = some (.tup [x1, x2, x3, x4]) → Same H H2 → te (some x1 :: some x2 :: some x3 :: some x4 :: caps σ js) H2 fun v H5 => Pz i H5 v ∧ Same H2 H5)
    (hd : ∀ l H' vs, H l = none → Same H H' → H' l = some (.lst vs) → vs.length = kvs.length → (∀ (i : Nat) v, vs[i]? = some v → Pz i H' v ∧ v ≠ .ref l) → F l H') (hne : ∀ i H v l, Pz i H v → (∃ ys, H l = some (.lst ys)) → v ≠ .ref l) (hup : ∀ i H v l ys, Pz i H v → v ≠ .ref l → Pz i (upd H l (.lst ys)) v) : compRd 4 js (G4 K) tYes te σ F (Itp (·.2) o d) H := by
  intro l hl0
  refine ⟨fun i m σ' H2 => m = kvs.length - i ∧ i ≤ kvs.length ∧ (∃ o1 o2 o3 o4, σ' = o1 :: o2 :: o3 :: o4 :: caps σ js) ∧ Same H H2 ∧ ∃ vs, H2 l = some (.lst vs) ∧ vs.length = i ∧ ∀ (j : Nat) v, vs[j]? = some v → Pz j H2 v ∧ v ≠ .ref l, ⟨kvs.length, by simp, Nat.zero_le _, ⟨none, none, none, none, rfl⟩, same_upd (Same.refl _) hl0, [], upd_same, rfl, fun j v z => by simp at z⟩, ?_⟩
  rintro i m σ' H2 ⟨rfl, hi, ⟨o1, o2, o3, o4, rfl⟩, e, vs, hl, vl, hv⟩
  have q := e _ _ hfr
  by_cases hlt : i < kvs.length
  · refine .inr ⟨⟨kvs, kvs[i], q, by simp [hlt]⟩, fun x H3 y => ?_⟩
    obtain ⟨rfl, y⟩ := y
    obtain ⟨kv, e1, rfl⟩ := y kvs q
    obtain ⟨p, x1, x2, x3, x4, ep, hp⟩ := hf i kv e1
    refine ⟨p, [x1, x2, x3, x4], ep, SqT.of (e _ _ hp), rfl, x1, [x2, x3, x4], rfl, x2, [x3, x4], rfl, x3, [x4], rfl, x4, [], rfl, rfl, ?_⟩
    refine ⟨fun _ => False, fun v H5 => Pz i H5 v ∧ Same H3 H5, fun H4 z => z.elim, fun v H5 ⟨p5, e5⟩ => ?_, hs i kv p x1 x2 x3 x4 H3 e1 ep hp e⟩
    refine ⟨vs, e5 _ _ hl, by rw [vl]; exact Nat.lt_of_lt_of_le hlt (Nat.le_trans hz (by decide)), _, ?_, rfl, hlt, ⟨_, _, _, _, rfl⟩, same_new (e.trans e5) hl0, vs ++ [v], upd_same, by simp [vl], fun j u hu => ?_⟩
    · omega
    · by_cases hj : j < vs.length
      · rw [List.getElem?_append_left hj] at hu
        obtain ⟨a1, a2⟩ := hv j u hu
        exact ⟨hup _ _ _ _ _ (mono _ _ _ _ e5 a1) a2, a2⟩
      · rw [List.getElem?_append_right (by omega)] at hu
        have h0 : j - vs.length = 0 := by
          have := (List.getElem?_eq_some_iff.mp hu).1
          simp at this
          omega
        rw [h0] at hu
        have : u = v := by simpa using hu.symm
        subst this
        have ji : j = i := by omega
        subst ji
        have nv := hne _ _ _ l p5 ⟨_, e5 _ _ hl⟩
        exact ⟨hup _ _ _ _ _ p5 nv, nv⟩
  · have ei : i = kvs.length := by omega
    subst ei
    exact .inl ⟨⟨kvs, q, Nat.le_refl _⟩, hd l H2 vs hl0 e hl vl hv⟩
end
end L2
set_option maxRecDepth 100000
namespace L2
open PySem PySem.Spec PyProof.Rows
structure FunD (K : PySem.W.Frag) (x qual : Str) (st : Stmt) (f : Addr) (fd : FuncData) : Prop where
  ex : ∃ (oc : Value) (od : Option Addr) (dV kV doc pm : Value) (an : Option Addr) (cdv ct : Value) (osl : Array (Option Value)),
    fd = PySem.W.fnOf x qual (defArgs st) (defBody st) (defScope st) dV kV doc pm an cdv ct ∧ K.lookup f = some ⟨oc, od, .func fd, osl⟩ ∧ PySem.W.codeIn K cdv qual = true
  kp : PySem.W.keepIn K (.ref f) = true
section
variable {P : Program} {w : World} {K : PySem.W.Frag} {mg : Str → Option Value} {base : Heap}
theorem FunD.okX {x qual : Str} {st : Stmt} {f : Addr} {fd : FuncData} {N ps : List Str} {k : Nat} {sp : Sp} (F : FunD K x qual st f fd) (S : FnScope N ps (defScope st)) (len : ∀ vs H Q E, sp vs H Q E → vs.length = ps.length)
    (hbody : ∀ (cdv : Value) (A : Around) (outer : List Env) (s : Shared) (H : Hp) (vs : List V) (Q : VK) (E : XK), Room k (A.deeper (envOfC qual (defScope st) s.heap.objs.size f cdv)) → sp vs H Q E →
      ∃ t, PSs (cxOf (CXE P w) P w K mg base N qual (defScope st) f cdv A outer s H E) (defBody st) t ∧ t { nx := fun _ H' => Q .non H', rt := Q } (start N vs) H) : FnOk P w K mg base (CXE P w) (k + 1) f fd ps sp := by
  obtain ⟨oc, od, dV, kV, doc, pm, an, cdv, ct, osl, rfl, lk, hcd⟩ := F.ex
  exact fn_of lk hcd S len fun A outer s H vs Q E hr hsp => hbody cdv A outer s H vs Q E hr hsp
end
end L2
set_option maxRecDepth 100000
namespace L2
open PySem PySem.Spec PyProof.Rows
section
variable {X : Cx} {tg : Expr}
end
end L2
set_option maxRecDepth 100000
namespace L2
open PySem PySem.Spec PyProof.Rows
def Ite (K : PySem.W.Frag) (a : Addr) : It :=
  ⟨fun i H => ∃ xs x, SqL K H a xs ∧ xs[i]? = some x, fun i H v H' => ∃ T, H T = none ∧ v = .ref T ∧ ∃ x, (∀ xs, SqL K H a xs → xs[i]? = some x) ∧ H' = upd H T (.tup [.int i, x]), fun i H => ∃ xs, SqL K H a xs ∧ xs.length ≤ i⟩
def tnEn (e it a : Addr) (i : Nat) (h : Heap) : Prop := (∃ old, IsEnum h e it i old) ∧ h.IsListIter it a i
theorem turn_enum {P : Program} {w : World} {K : PySem.W.Frag} {elts : List Expr} {x1 : Nat} {tpos : Pos} (a e it : Addr) (ne : e ≠ it) : Turn P w K (.Tuple elts x1 tpos) (Ite K a) [e, it] e (tnEn e it a) where
  mem := by simp
  obj := fun i h st c hc => by
    obtain ⟨⟨old, h1⟩, ⟨o2, e2, c2, d2⟩⟩ := st
    simp only [List.mem_cons, List.not_mem_nil, or_false] at hc
    rcases hc with rfl | rfl
    · exact ⟨_, h1, fun v z => by cases z⟩
    · exact ⟨_, e2, fun v z => by rw [d2] at z; cases z⟩
  keep := fun i h h' st k => by
    obtain ⟨⟨old, h1⟩, h2⟩ := st
    exact ⟨⟨old, k e (by simp) _ h1⟩, h2.at fun o z => k it (by simp) o z⟩
  item := by
    intro X hP hw hK hc i pins s σ H E I hf st hg
    subst hP hw hK
    obtain ⟨xs, x, hx, ex⟩ := hg
    obtain ⟨⟨old, h1⟩, h2⟩ := st
    obtain ⟨its, rv, p, hz⟩ := I.list hx
    obtain ⟨w1, ew1, r1⟩ := rv.get ex
    refine wpAny_pyNext_enum_item h1 h2 p.isList (x := w1) (by simpa using ew1) ne fun h' a1 a2 a3 a4 a5 => ?_
    refine ⟨_, rfl, wpAny_letOwnedTupleGo_enum (s := { s with heap := h', toks := s.toks + 1 }) a1 fun h'' b1 sb => ?_⟩
    have hT : H s.heap.objs.size = none := I.hok.fresh (Nat.le_refl _)
    have zne : ∀ c ∈ [e, it], c ≠ s.heap.objs.size := fun c hc z => by
      have : ∃ o, s.heap.get? c = some o := by
        simp only [List.mem_cons, List.not_mem_nil, or_false] at hc
        obtain ⟨o2, e2, _⟩ := h2
        rcases hc with rfl | rfl
        · exact ⟨_, h1⟩
        · exact ⟨_, e2⟩
      obtain ⟨o, q⟩ := this
      exact absurd (Heap.lt_size q) (by rw [z]; exact Nat.lt_irrefl _)
    have kk : ∀ c o, c ∉ [e, it] → s.heap.get? c = some o → h''.get? c = some o := fun c o hc z => by
      simp only [List.mem_cons, List.not_mem_nil, or_false, not_or] at hc
      exact sb.extBut _ _ hc.1 (a5 c o hc.1 hc.2 z)
    have I1 : Inv X pins σ H { s with heap := h'', toks := s.toks + 1 } := I.turnedN (t' := s.toks + 1) (ch := [e, it]) hf kk
    have I2 : Inv X pins σ (upd H s.heap.objs.size (.tup [.int i, x])) { s with heap := h'', toks := s.toks + 1 } := by
      refine I1.track (I.fpOk (Nat.le_refl _) hT) I.sz ⟨by show 2 ≤ sizeLine; decide, [.int i s.toks, w1], .cons ⟨_, rfl⟩ (.cons r1 .nil), ?_⟩
      exact ⟨_, sb.extBut _ _ (Ne.symm (zne e (by simp))) a3, rfl, _, rfl⟩
    refine ⟨.ref s.heap.objs.size, _, I2, rfl, ⟨_, hT, rfl, x, fun xs' hx' => by rw [I.list_inj hx' hx]; exact ex, rfl⟩, ⟨⟨w1, ?_⟩, ?_⟩, fun c hc => ?_⟩
    · simpa using b1
    · exact a2.extBut sb.extBut (Ne.symm ne)
    · rw [upd_ne (zne c hc)]
      exact (hf c hc).1
  done := by
    intro X hP hw hK hc i pins s σ H E I hf st hg
    subst hP hw hK
    obtain ⟨xs, hx, hl⟩ := hg
    obtain ⟨⟨old, h1⟩, h2⟩ := st
    obtain ⟨its, rv, p, hz⟩ := I.list hx
    have l1 := rv.length
    refine wpAny_pyNext_enum_end (I.ok.hd hc) h1 h2 p.isList (by simp; omega) fun h' kk => ⟨rfl, I.turnedN (t' := s.toks) (ch := [e, it]) hf fun c o hc z => ?_⟩
    simp only [List.mem_cons, List.not_mem_nil, or_false, not_or] at hc
    exact kk c o hc.2 z
  self := fun _ _ _ _ _ st h => wpAny_pyIter_enum st.1.choose_spec h
theorem boot_enumerate : bootBuiltins "enumerate" = some (.type "enumerate") := by decide +kernel
def iEnum (K : PySem.W.Frag) (ta : TA) : TI := fun σ H R => ta σ H fun vs H1 => ∃ a xs, vs = [.ref a] ∧ H1 a = some (.lst xs) ∧ R (Ite K a) H1
theorem pi_enum {X : Cx} (K : PySem.W.Frag) {elts : List Expr} {x1 : Nat} {tpos : Pos} {e1 : Expr} {ta : TA} {p pos : Pos} (hg : Gl X "enumerate") (hm : X.mg "enumerate" = none) (ha : PA X [e1] ta) (hK : X.K = K := by rfl)
    (hs : starEach [e1] X.env = [(false, eval e1 X.env)] := by rfl) : PI X (.Tuple elts x1 tpos) (.Call (.Name "enumerate" p) [e1] [] pos) (iEnum K ta) := by
  subst hK
  intro pins s σ H R I h
  refine Call_ (ld_blt I hg hm boot_enumerate (PyProof.Rows.callWith_type1 (thn (ha pos pins s σ H _ I h) fun us s1 ⟨vs, H1, I1, r1, q1⟩ => ?_) hs rfl))
  obtain ⟨a, xs, rfl, hx, q⟩ := q1
  obtain ⟨u, rfl, ru⟩ := vals1 r1
  cases ru
  obtain ⟨its, n, rv, ho, hz⟩ := I1.lst hx
  refine call_enumerate_1 ho fun h' a1 a2 a3 a4 => wpAny_pyIter_enum a1 ?_
  have I2 : Inv X pins σ H1 { s1 with heap := h' } := I1.kept (t' := s1.toks) a4
  refine ⟨_, [s1.heap.objs.size + 1, s1.heap.objs.size], _, _, H1, rfl, I2, turn_enum a _ _ (Nat.ne_of_gt (Nat.lt_succ_self _)), ⟨⟨_, a1⟩, a2⟩, fun c hc => ?_, q⟩
  have le : @LE.le Nat _ s1.heap.objs.size c := by
    simp only [List.mem_cons, List.not_mem_nil, or_false] at hc
    rcases hc with rfl | rfl
    · exact Nat.le_succ _
    · exact Nat.le_refl _
  exact I1.fpOk (H' := H1) (b := c) le (I1.hok.fresh le)
theorem for_enum {K : PySem.W.Frag} {a : Addr} {xs : List V} {i1 i2 : Nat} {tb : TS} {D : Ends} {σ : St} {H : Hp} (Pv : Nat → St → Hp → Prop) (h0 : Pv 0 σ H) (hl : ∀ i σ H, i ≤ xs.length → Pv i σ H → SqL K H a xs)
    (hs : ∀ (i : Nat) (x : V) (T : Addr) σ H, xs[i]? = some x → Pv i σ H → H T = none → tb { D with nx := Pv (i + 1), ct := Pv (i + 1), bk := D.nx } ((σ.set i1 (some (.int i))).set i2 (some x)) (upd H T (.tup [.int i, x]))) (hd : ∀ σ H, Pv xs.length σ H → D.nx σ H) :
    ∃ W : Nat → Nat → St → Hp → Prop, (∃ m, W 0 m σ H) ∧ ∀ i m σ H, W i m σ H →
      ((Ite K a).stop i H ∧ D.nx σ H) ∨ ((Ite K a).go i H ∧ ∃ N : St → Hp → Prop, (∀ σ' H', N σ' H' → ∃ m', m' < m ∧ W (i + 1) m' σ' H') ∧ ∀ x H', (Ite K a).yld i H x H' → gTup K 2 (gCons (gName i1) (gCons (gName i2) gNil)) x σ H' fun σ2 H2 => tb { D with nx := N, ct := N, bk := D.nx } σ2 H2) := by
  refine ⟨fun i m σ H => m = xs.length - i ∧ i ≤ xs.length ∧ Pv i σ H, ⟨xs.length, by simp, Nat.zero_le _, h0⟩, ?_⟩
  rintro i m σ H ⟨rfl, hi, p⟩
  have q := hl i σ H hi p
  by_cases hlt : i < xs.length
  · refine .inr ⟨⟨xs, xs[i], q, by simp [hlt]⟩, Pv (i + 1), fun σ' H' p' => ⟨xs.length - (i + 1), by omega, rfl, hlt, p'⟩, fun v H' y => ?_⟩
    obtain ⟨T, hT, rfl, x, ex, rfl⟩ := y
    exact ⟨T, [.int i, x], rfl, SqT.of upd_same, rfl, _, [x], rfl, _, [], rfl, rfl, hs i x T σ H (ex xs q) p hT⟩
  · have e : i = xs.length := by omega
    subst e
    exact .inl ⟨⟨xs, q, Nat.le_refl _⟩, hd σ H p⟩
end L2
set_option maxRecDepth 100000
namespace L2
open PySem PySem.Spec PyProof.Rows
section
variable {X : Cx}
end
end L2
set_option maxRecDepth 100000
namespace L2
open PySem PySem.Spec PyProof.Rows
section
variable {K : PySem.W.Frag} {α : Type} [DecidableEq α] {R : Hp → V → α → Prop} {k : Nat}
end
section
variable {K : PySem.W.Frag} {js : List Nat} {te : TE} {σ : St} {F : Addr → Hp → Prop} {H : Hp}
end
end L2
set_option maxRecDepth 100000
namespace L2
open PySem PySem.Spec PyProof.Rows
section
variable {K : PySem.W.Frag} {js : List Nat} {te : TE} {σ : St} {F : Addr → Hp → Prop} {H : Hp}
end
end L2
set_option maxRecDepth 100000
namespace L2
open PySem
theorem lk_list_keys : typeLookup (.type "list") "keys" = pure none := by rw [typeLookup_type, builtinLookup_eq_fast]; kernel_rfl
theorem entry_dloop : entryFor table "dict.update.loop" = some Builtin.«dict.update.loop» := entryFor_of_tree (by kernel_rfl)
section
variable {prog : Program} {w : World} {A : Around} {E : Value → Shared → Prop} {s : Shared} {a : Addr}
theorem keys_none {xs : Array Value} {k : Nat} {sl : Array (Option Value)} {Q : Option Value → Shared → Prop} (hx : s.heap.get? a = some ⟨.type "list", none, .seq xs k, sl⟩) (hA : A.handled = none)
    (h : ∀ h' tk e, Heap.NewExcOf s.heap h' e "AttributeError" → Q none { s with heap := h', toks := tk }) : wpAny (model prog w) A (getAttr? (.ref a) "keys") Q E s := by
  obtain ⟨hp, g, d, tk, os⟩ := s
  have hT : ∀ tk', (⟨hp, g, d, tk', os⟩ : Shared).TypeIs (.ref a) "list" := fun _ => ⟨_, hx, rfl⟩
  have f1 := sub_AttributeError
  have f3 := F.slot_list_getattribute.lookup
  have f4 := F.slot_list_getattribute.bind (.ref a)
  have f5 := am_list_getattr_none
  unfold getAttr? getAttrBy? getAttrBy
  repeat (any_goals (first | assumption | exact hT _ | ((with_reducible show wpAny _ _ (call (Value.builtin "list.__getattribute__") _ _) _ _ _); refine call_meets F.slot_list_getattribute (hT _) am_entry_list_getattribute (F.args_list_getattribute_2 _ _) (meets_getattribute_miss_list a xs k sl "keys" _ lk_list_keys (by decide) (by size_fits)) ⟨hx, hA, fun h' tk' e hx' => ?_⟩) | wp_step))
  obtain ⟨t', u', he⟩ := hx'.there
  show wpAny _ _ (getattributeRaised _ _ _ _ _ _ _) _ _ _
  unfold getattributeRaised
  repeat (any_goals (first | assumption | wp_step))
  exact h _ _ _ hx'.of
end
section
variable {prog : Program} {w : World} {κ : Type} [DecidableEq κ] {knd : KeyKind prog w κ}
def PairsIn (knd : KeyKind prog w κ) (h : Heap) (items : Array Value) (ps : List (κ × Value)) : Prop := items.size = ps.length ∧ ∀ (i : Nat) x p, items[i]? = some x → ps[i]? = some p → ∃ t u, x = .ref t ∧ h.IsTuple t #[u, p.2] ∧ knd.is p.1 u = true
theorem loop_pairs {it l d : Addr} {items : Array Value} {ps : List (κ × Value)} {A : Around} (hh : A.handled = none) (hps : ps.length ≤ 1000) (hdl : d ≠ l) (hil : it ≠ l) (hdi : d ≠ it) (R : Result → Shared → Prop) :
    ∀ (n i : Nat) (s : Shared), n = ps.length - i → i ≤ ps.length → s.heap.IsListIter it l i → s.heap.IsList l items → PairsIn knd s.heap items ps → s.heap.DictOf knd d (merged [] (ps.take i)) →
      (∀ h' tk, h'.DictOf knd d (merged [] ps) → (∀ b o, b ≠ d → b ≠ it → s.heap.get? b = some o → h'.get? b = some o) → R (.ok (.ret .none)) { s with heap := h', toks := tk }) →
      codeAny (model prog w) A (.builtin "dict.update.loop" ⟨[.ref d, .ref it, rawInt i, .none], []⟩) R s := by
  intro n
  induction n with
  | zero =>
    intro i s hn hi hit hl hp hd h
    have ei : i = ps.length := by omega
    refine codeAny_builtin entry_dloop ?_
    unfold Builtin.«dict.update.loop»
    show wpAny _ _ (pyNext (.ref it) >>= _) _ _ _
    refine wpAny_bind (wpAny_pyNext_list_end hh hit hl (Array.getElem?_eq_none (by rw [hp.1]; omega)) fun h' ext => ?_)
    show wpAny _ _ (Builtin.Dict.addKeywords d [] >>= _) _ _ _
    obtain ⟨o, es, ep, ho, r⟩ := hd
    refine wpAny_bind (wpAny_pure (wpAny_pure (h h' _ ⟨o, es, ep, ext d o hdi ho, by rw [ei, List.take_length] at r; exact r⟩ fun b o hb1 hb2 hb => ext b o hb2 hb)))
  | succ n ih =>
    intro i s hn hi hit hl hp hd h
    have hlt : i < ps.length := by omega
    obtain ⟨p, ep⟩ : ∃ p, ps[i]? = some p := ⟨_, List.getElem?_eq_getElem hlt⟩
    obtain ⟨x, ex⟩ : ∃ x, items[i]? = some x := ⟨_, Array.getElem?_eq_getElem (by rw [hp.1]; exact hlt)⟩
    obtain ⟨t, u, rfl, ht, hk⟩ := hp.2 i x p ex ep
    refine codeAny_builtin entry_dloop ?_
    unfold Builtin.«dict.update.loop»
    show wpAny _ _ (pyNext (.ref it) >>= _) _ _ _
    have neT : ∀ t' v', s.heap.IsTuple t' v' → t' ≠ it ∧ t' ≠ d := fun t' v' ⟨o', ho', _, n', hd'⟩ => by
      obtain ⟨oi, hoi, _, hdi'⟩ := hit
      obtain ⟨od, es, ep, hod, _, hdd, _⟩ := hd
      constructor
      · intro z
        rw [z, hoi] at ho'
        cases ho'
        rw [hdi'] at hd'
        cases hd'
      · intro z
        rw [z, hod] at ho'
        cases ho'
        rw [hdd] at hd'
        cases hd'
    refine wpAny_bind (wpAny_pyNext_list_item hit hl ex fun h1 hit1 sb1 => ?_)
    have keep1 : ∀ b o, b ≠ it → s.heap.get? b = some o → h1.get? b = some o := fun b o hb e => (sb1.2 b hb).trans e
    have tup1 : ∀ t' v', s.heap.IsTuple t' v' → h1.IsTuple t' v' := fun t' v' z => by
      obtain ⟨o', ho', r'⟩ := id z
      exact ⟨o', keep1 t' o' (neT t' v' z).1 ho', r'⟩
    have hd1 : h1.DictOf knd d (merged [] (ps.take i)) := by
      obtain ⟨o, es, ep, ho, r⟩ := hd
      exact ⟨o, es, ep, keep1 d o hdi ho, r⟩
    have hl1 : h1.IsList l items := by
      obtain ⟨o, ho, r⟩ := hl
      exact ⟨o, keep1 l o hil.symm ho, r⟩
    obtain ⟨ot, hot, hct, nt, hdt⟩ := tup1 t _ ht
    show wpAny _ _ (holding [.ref t] _ >>= _) _ _ _
    refine wpAny_bind (wpAny_holding (wpAny_bind (wpAny_tryCatch ?_)))
    unfold Builtin.Dict.pairItems
    refine wpAny_bind (wpAny_typeOf (T := "tuple") ⟨ot, hot, hct⟩ ?_)
    rw [if_pos (by decide)]
    refine wpAny_bind (wpAny_seqItems hot hdt (wpAny_pure ?_))
    show wpAny _ _ (holding [u, p.2] (dictSet d u p.2)) _ _ _
    have hml : (merged [] (ps.take i)).length ≤ sizeLine := by
      have h1 := merged_length_le ([] : List (κ × Value)) (ps.take i)
      rw [List.length_take] at h1
      have h2 : sizeLine = 2 ^ 24 := rfl
      simp only [List.length_nil] at h1
      omega
    refine wpAny_holding (wpAny_dictSet_pairs (hsz := hml) hk hd1 fun h2 hd2 sb2 => ?_)
    have keep2 : ∀ b o, b ≠ d → h1.get? b = some o → h2.get? b = some o := fun b o hb e => (sb2.2 b hb).trans e
    refine wpAny_pure ⟨Code.quiet_builtin _ (by decide +kernel), ?_⟩
    refine ih (i + 1) { s with heap := h2, toks := s.toks + 1 } (by omega) (by omega) ?_ ?_ ⟨hp.1, fun j x' p' h3 h4 => ?_⟩ ?_ fun h' tk h3 h4 => h h' tk h3 fun b o hb1 hb2 hb => h4 b o hb1 hb2 (keep2 b o hb1 (keep1 b o hb2 hb))
    · obtain ⟨oi, hoi, r⟩ := hit1
      exact ⟨oi, keep2 it oi hdi.symm hoi, r⟩
    · obtain ⟨ol, hol, r⟩ := hl1
      exact ⟨ol, keep2 l ol hdl.symm hol, r⟩
    · obtain ⟨t', u', e', ht', hk'⟩ := hp.2 j x' p' h3 h4
      obtain ⟨o', ho', r'⟩ := tup1 t' _ ht'
      exact ⟨t', u', e', ⟨o', keep2 t' o' (neT t' _ ht').2 ho', r'⟩, hk'⟩
    · rw [merged_take_succ _ _ i p ep]
      exact hd2
theorem call_pairs {A : Around} {E : Value → Shared → Prop} {s : Shared} {l : Addr} {items : Array Value} {n : Nat} {sl : Array (Option Value)} {ps : List (κ × Value)} {Q : Value → Shared → Prop} (hh : A.handled = none) (hl : s.heap.get? l = some ⟨.type "list", none, .seq items n, sl⟩) (hp : PairsIn knd s.heap items ps) (hps : ps.length ≤ 1000)
    (h : ∀ h' tk, h'.DictOf knd s.heap.objs.size (merged [] ps) → (∀ b o, s.heap.get? b = some o → h'.get? b = some o) → Q (.ref s.heap.objs.size) { s with heap := h', toks := tk }) :
    wpAny (model prog w) A (call (.type "dict") [.ref l]) Q E s := by
  refine callType_codes (Q₁ := fun obj s₁ => obj = .ref s.heap.objs.size ∧ s₁ = { s with heap := s.heap.push { cls := .type "dict", data := .dict #[] } }) F.kt_called_dict (F.kt_typeCall_dict_1 _) F.entry_dict_init (kt_code_dict_new _ ⟨rfl, rfl⟩) ?_
  rintro obj s₁ ⟨rfl, rfl⟩
  have hnew : (s.heap.push { cls := .type "dict", data := .dict #[] }).DictOf knd s.heap.objs.size [] := Heap.DictOf.new s.heap
  have hl' := Heap.get?_push_of_some (h := s.heap) { cls := .type "dict", data := .dict #[] } hl
  refine ⟨hnew.typeIs, F.args_dict_init_2 _ _, ?_⟩
  unfold Builtin.«dict.__init__»
  refine wpAny_bind ?_
  unfold Builtin.Dict.selfAndRest
  refine wpAny_bind (wpAny_notOrdered_dict hnew.typeIs ?_)
  show wpAny _ _ (pure (s.heap.objs.size, [Value.ref l])) _ _ _
  refine wpAny_pure ?_
  show wpAny _ _ (Builtin.Dict.updateFrom "dict.__init__" s.heap.objs.size (.ref l) [] .none) _ _ _
  unfold Builtin.Dict.updateFrom
  refine wpAny_bind (wpAny_typeOf (T := "list") ⟨_, hl', rfl⟩ ?_)
  rw [if_pos (by decide)]
  refine wpAny_bind (keys_none hl' hh fun h1 tk1 e1 ne1 => ?_)
  rw [if_pos (show (none : Option Value).isNone = true from rfl)]
  have keep0 : ∀ b o, s.heap.get? b = some o → h1.get? b = some o := fun b o e => ne1.keeps b o (Heap.get?_push_of_some _ e)
  have hl1 : h1.IsList l items := ⟨_, keep0 _ _ hl, rfl, n, rfl⟩
  refine wpAny_bind (wpAny_rule ?_)
  refine wpAny_bind (wpAny_pyIter_list (s := { s with heap := h1, toks := tk1 }) hl1 ?_)
  refine wpAny_pure ⟨Code.quiet_builtin _ (by decide +kernel), ?_⟩
  have kp : ∀ b o, h1.get? b = some o → (h1.push { cls := .type "list_iterator", data := .fields #[.ref l, .int 0 0] }).get? b = some o := fun b o e => Heap.get?_push_of_some _ e
  have hd1 : h1.DictOf knd s.heap.objs.size [] := by
    obtain ⟨o, es, ep, ho, r⟩ := hnew
    exact ⟨o, es, ep, ne1.keeps _ _ ho, r⟩
  have nl : s.heap.objs.size ≠ l := Nat.ne_of_gt (Heap.lt_size hl)
  have lt1 : s.heap.objs.size < h1.objs.size := by
    obtain ⟨o, es, ep, ho, r⟩ := hd1
    exact Heap.lt_size ho
  refine loop_pairs (A := A.in1) (knd := knd) hh hps nl (Nat.ne_of_gt (Heap.lt_size (keep0 _ _ hl))) (Nat.ne_of_lt lt1) _ ps.length 0 { s with heap := h1.push { cls := .type "list_iterator", data := .fields #[.ref l, .int 0 0] }, toks := tk1 } (by omega) (Nat.zero_le _) ⟨_, Heap.get?_push_size _ rfl, rfl, rfl⟩ ?_ ⟨hp.1, fun i x p h3 h4 => ?_⟩ ?_ fun h' tk hD keep => ?_
  · obtain ⟨o, ho, r⟩ := hl1
    exact ⟨o, kp _ _ ho, r⟩
  · obtain ⟨t, u, e, ⟨o, ho, r⟩, hk⟩ := hp.2 i x p h3 h4
    exact ⟨t, u, e, ⟨o, kp _ _ (keep0 _ _ ho), r⟩, hk⟩
  · obtain ⟨o, es, ep, ho, r⟩ := hd1
    exact ⟨o, es, ep, kp _ _ ho, by rw [List.take_zero]; exact r⟩
  · refine ⟨rfl, h h' tk hD fun b o e => keep b o (Nat.ne_of_lt (Heap.lt_size e)) (Nat.ne_of_lt (Heap.lt_size (keep0 b o e))) (kp b o (keep0 b o e))⟩
end
section
variable {X : Cx}
def PairsL (H : Hp) (p : Addr) (kvs : List (Key × V)) : Prop := ∃ xs, H p = some (.lst xs) ∧ Paired (fun v (kv : Key × V) => ∃ t, v = .ref t ∧ H t = some (.tup [kV kv.1, kv.2])) xs kvs
theorem pairs_in {P : Program} {w : World} {H : Hp} {h : Heap} (hok : HOk P w H h) : ∀ {xs : List V} {kvs : List (Key × V)} {its : List Value}, Paired (fun v (kv : Key × V) => ∃ t, v = .ref t ∧ H t = some (.tup [kV kv.1, kv.2])) xs kvs → Vals xs its →
    ∃ ps : List (Key × Value), KV kvs ps ∧ its.length = ps.length ∧ ∀ (i : Nat) x p, its[i]? = some x → ps[i]? = some p → ∃ t u, x = .ref t ∧ h.IsTuple t #[u, p.2] ∧ (mixKind P w).is p.1 u = true
  | _, _, _, .nil, .nil => ⟨[], .nil, rfl, fun i x p h1 _ => by simp at h1⟩
  | _, kv :: _, _, .cons ⟨t, e, ht⟩ r, .cons (b := b) rv rvs => by
    obtain ⟨ps, k1, k2, k3⟩ := pairs_in hok r rvs
    subst e
    obtain rfl : b = Value.ref t := rv
    obtain ⟨_, its2, r2, ob, ho, hc, n, hd⟩ := (show ObjOk P w H h t (.tup [kV kv.1, kv.2]) from hok t _ ht)
    obtain ⟨u, v, rfl, ru, rv2⟩ := vals2 r2
    refine ⟨(kv.1, v) :: ps, .cons ⟨rfl, rv2⟩ k1, by simp [k2], fun i x p h1 h2 => ?_⟩
    cases i with
    | zero =>
      have h1 : Value.ref t = x := by simpa using h1
      have h2 : (kv.1, v) = p := by simpa using h2
      subst h1 h2
      exact ⟨t, u, rfl, ⟨ob, ho, hc, n, hd⟩, kV_is ru⟩
    | succ i => exact k3 i x p (by simpa using h1) (by simpa using h2)
theorem call_dict_pairs (hc : X.calm = true) : CallR X (.type "dict") (fun xs H Q => ∃ p kvs, xs = [.ref p] ∧ PairsL H p kvs ∧ kvs.length ≤ 1000 ∧ NewQ H (.dK (mergeK [] kvs)) Q) := by
  intro pins s σ H xs us Q I r h
  obtain ⟨p, kvs, rfl, ⟨ys, hy, hp⟩, hz, q⟩ := h
  obtain ⟨u, rfl, rx⟩ := vals1 r
  obtain rfl : u = Value.ref p := rx
  obtain ⟨z, its, n, rv, e⟩ := (show ObjOk X.prog X.w H s.heap p (.lst ys) from I.hok p _ hy)
  obtain ⟨ps, k1, k2, k3⟩ := pairs_in I.hok hp rv
  have hkl := KV.length k1
  refine call_pairs (knd := mixKind X.prog X.w) (ps := ps) (I.ok.hd hc) e ⟨by rw [List.size_toArray]; exact k2, fun i x p h1 h2 => k3 i x p (by simpa using h1) h2⟩ (by omega) fun h' tk hD keep => ?_
  have hz2 : (mergeK [] kvs).length ≤ sizeLine := by
    have h1 := length_mergeK kvs []
    rw [List.length_nil] at h1
    rw [sizeLine_eq]; omega
  refine ⟨.ref s.heap.objs.size, _, I.laid (t' := tk) keep (Nat.le_refl _) ?_, rfl, q.at (I.hok.fresh (Nat.le_refl _))⟩
  exact ⟨hz2, beq_eq_false_iff_ne.mpr (Nat.ne_of_gt I.big), _, k1.merge .nil, hD⟩
end
end L2
set_option maxRecDepth 100000
namespace L2
open PySem
section
variable {prog : Program} {w : World} {κ : Type} [DecidableEq κ] {knd : KeyKind prog w κ}
theorem call_dcopy {A : Around} {E : Value → Shared → Prop} {s : Shared} {l : Addr} {ps : List (κ × Value)} {Q : Value → Shared → Prop} (hl : s.heap.DictOf knd l ps) (hS : (l == sysModules) = false) (hz : ps.length ≤ sizeLine)
    (h : ∀ h', h'.DictOf knd s.heap.objs.size (merged [] ps) → (∀ b o, s.heap.get? b = some o → h'.get? b = some o) → Q (.ref s.heap.objs.size) { s with heap := h' }) :
    wpAny (model prog w) A (call (.type "dict") [.ref l]) Q E s := by
  refine callType_codes (Q₁ := fun obj s₁ => obj = .ref s.heap.objs.size ∧ s₁ = { s with heap := s.heap.push { cls := .type "dict", data := .dict #[] } }) F.kt_called_dict (F.kt_typeCall_dict_1 _) F.entry_dict_init (kt_code_dict_new _ ⟨rfl, rfl⟩) ?_
  rintro obj s₁ ⟨rfl, rfl⟩
  have hnew : (s.heap.push { cls := .type "dict", data := .dict #[] }).DictOf knd s.heap.objs.size [] := Heap.DictOf.new s.heap
  have kp : ∀ b o, s.heap.get? b = some o → (s.heap.push { cls := .type "dict", data := .dict #[] }).get? b = some o := fun b o e => Heap.get?_push_of_some _ e
  have lt : l < s.heap.objs.size := by
    obtain ⟨o, es, ep, ho, r⟩ := hl
    exact Heap.lt_size ho
  have hl' : (s.heap.push { cls := .type "dict", data := .dict #[] }).DictOf knd l ps := by
    obtain ⟨o, es, ep, ho, r⟩ := hl
    exact ⟨o, es, ep, kp _ _ ho, r⟩
  refine ⟨hnew.typeIs, F.args_dict_init_2 _ _, ?_⟩
  unfold Builtin.«dict.__init__»
  refine wpAny_bind ?_
  unfold Builtin.Dict.selfAndRest
  refine wpAny_bind (wpAny_notOrdered_dict hnew.typeIs ?_)
  show wpAny _ _ (pure (s.heap.objs.size, [Value.ref l])) _ _ _
  refine wpAny_pure ?_
  show wpAny _ _ (Builtin.Dict.updateFrom "dict.__init__" s.heap.objs.size (.ref l) [] .none) _ _ _
  unfold Builtin.Dict.updateFrom
  refine wpAny_bind (wpAny_typeOf hl'.typeIs ?_)
  rw [if_neg (by decide)]
  refine wpAny_bind ?_
  unfold Builtin.Dict.merge
  refine wpAny_bind ?_
  unfold Builtin.Dict.readDirectly
  refine wpAny_bind (wpAny_isInstance hl'.typeIs isSubtype_dict_dict ?_)
  simp only [Bool.not_true, Bool.false_eq_true, if_false]
  refine wpAny_bind (wpAny_specialOf hl'.typeIs F.slot_dict_iter.lookup (wpAny_pure ?_))
  simp only [beq_self_eq_true, if_true]
  refine wpAny_bind (wpAny_pure ?_)
  refine wpAny_mergeDict (hsz := by simpa using hz) (Nat.ne_of_gt lt) hS hnew hl' fun h' hd' ho' hs' => ?_
  show wpAny _ _ (Builtin.Dict.addKeywords s.heap.objs.size [] >>= _) _ _ _
  refine wpAny_bind (wpAny_pure (wpAny_pure ⟨rfl, h h' hd' fun b o e => ?_⟩))
  exact (hs'.2 b (Nat.ne_of_lt (Heap.lt_size e))).trans (kp b o e)
end
section
variable {X : Cx}
theorem call_dict_dK : CallR X (.type "dict") (fun xs H Q => ∃ p kvs, xs = [.ref p] ∧ H p = some (.dK kvs) ∧ NewQ H (.dK (mergeK [] kvs)) Q) := by
  intro pins s σ H xs us Q I r h
  obtain ⟨p, kvs, rfl, hy, q⟩ := h
  obtain ⟨u, rfl, rx⟩ := vals1 r
  obtain rfl : u = Value.ref p := rx
  obtain ⟨z, hS, ps, k1, hD⟩ := (show ObjOk X.prog X.w H s.heap p (.dK kvs) from I.hok p _ hy)
  have hkl := KV.length k1
  refine call_dcopy (knd := mixKind X.prog X.w) hD hS (by omega) fun h' hD' keep => ?_
  have hz2 : (mergeK [] kvs).length ≤ sizeLine := by
    have h1 := length_mergeK kvs []
    rw [List.length_nil] at h1
    omega
  refine ⟨.ref s.heap.objs.size, _, I.laid (t' := s.toks) keep (Nat.le_refl _) ?_, rfl, q.at (I.hok.fresh (Nat.le_refl _))⟩
  exact ⟨hz2, beq_eq_false_iff_ne.mpr (Nat.ne_of_gt I.big), _, k1.merge .nil, hD'⟩
end
end L2
set_option maxRecDepth 100000
namespace L2
open PySem PySem.Spec PySem.Calls PyProof.Rows
theorem ints_vals : ∀ {us : List Value} {ns : List Int}, IntsAre us ns → Vals (ns.map V.int) us
  | _, _, .nil => .nil
  | _, _, .cons _ t h => .cons ⟨t, rfl⟩ (ints_vals h)
section
variable {X : Cx}
end
end L2
set_option maxRecDepth 100000
namespace L2
open PySem PySem.Spec PySem.Calls PyProof.Rows
theorem vals_intsA : ∀ {us : List Value} {ns : List Int}, Vals (ns.map V.int) us → IntsAre us ns
  | us, [], h => by cases h; exact .nil
  | us, n :: ns, h => by
    cases h with
    | cons a b =>
      obtain ⟨t, rfl⟩ := a
      exact .cons n t (vals_intsA b)
section
variable {X : Cx}
theorem call_sorted_l : CallR X (.builtin "sorted") (fun xs H Q => ∃ (l : Addr) (ns : List Int), xs = [.ref l] ∧ H l = some (.lst (ns.map V.int)) ∧ ns.length < 64 ∧
    ∀ ns' : List Int, ns'.Perm ns → ns'.Pairwise (· ≤ ·) → NewQ H (.lst (ns'.map V.int)) Q) := by
  intro pins s σ H xs us Q I r h
  obtain ⟨l, ns, rfl, hH, h64, q⟩ := h
  obtain ⟨u, rfl, rx⟩ := vals1 r
  cases rx
  obtain ⟨z', its, n, r, hl, e⟩ := I.lstM hH
  have hI := vals_intsA r
  have hlen : its.length = ns.length := by rw [← r.length, List.length_map]
  refine sorted_ints (vs := its) ⟨_, e, rfl, n, rfl⟩ hI (by omega) fun out ns' a1 a2 a3 => ?_
  obtain ⟨ep, hat⟩ := sortedAll_at s.heap its out
  have hln : (ns'.map V.int).length ≤ sizeLine := by
    rw [List.length_map, a2.length_eq]
    exact Nat.le_trans (Nat.le_of_lt h64) (by decide)
  refine ⟨.ref (s.heap.objs.size + 1), _, I.laid (t' := s.toks) (fun _ _ => sortedAll_old) (Nat.le_succ _) (show ObjOk X.prog X.w _ _ _ (.lst (ns'.map V.int)) from ⟨hln, out.toList, ep, ints_vals a1, ?_⟩), rfl, (q ns' a2 a3).at (I.hok.fresh (Nat.le_succ _))⟩
  simpa using hat
end
end L2
set_option maxRecDepth 100000
namespace L2
open PySem PySem.Spec PyProof.Rows
theorem on_no {X : Cx} : ThrOn X (fun _ _ _ _ => False) := fun pins σ H s e s' I h => by
  obtain ⟨ea, cls, a0, B, H', od, _, _, _, _, _, _, _, _, _, _, z⟩ := h
  exact z.elim
def DmXd (P : Program) (w : World) (K : PySem.W.Frag) (mg : Str → Option Value) (base : Heap) (k : Nat) (C : Addr) (m : Str) (ps : List Str) (dvs : List V) (sp : Sp) : Prop :=
  ∃ f fd ds, Cls K C ∧ Meth K C m f ∧ Binds K fd ps ds ∧ Vals dvs ds ∧ FnOk P w K mg base (CXE P w) k f fd ps sp
section
variable {X : Cx} {k : Nat} {C : Addr} {ps : List Str} {sp : Sp} {m : Str} {pos apos : Pos} {e o : Expr} {es : List Expr} {ta : TE} {t : TA} {W : St → XK} {dvs : List V}
theorem run_fnXd {f : Addr} {fd : FuncData} {pins : List (Addr × Obj)} {σ : St} {H : Hp} {s : Shared} {Q : VK} {us ds : List Value} {vs : List V} (F : FnOk X.prog X.w X.K X.mg X.base (CXE X.prog X.w) k f fd ps sp) (hr : Room k X.A) (hb : Binds X.K fd ps ds) (hd : Vals dvs ds) (hx : ThrOn X W)
    (I : Inv X pins σ H s) (r : Vals vs us) (h : sp (vs ++ dvs) H Q (W σ)) : wpAny (model X.prog X.w) X.A (call (.ref f) us) (EP X pins σ Q) X.xe s := by
  have r2 : Vals (vs ++ dvs) (us ++ ds) := r.append hd
  have hl : (us ++ ds).length = ps.length := by rw [← r2.length]; exact F.len _ _ _ _ h
  refine wpAny_call (codeAny_mono (F.run X.A X.stack s H ⟨us, []⟩ (us ++ ds) (vs ++ dvs) Q (W σ) hr I.env0 (hb s us I.kIn hl) r2 h) fun r s' hq => ?_)
  cases r with
  | error e => exact hx pins σ H s e s' I hq
  | ok fl =>
    cases fl with
    | ret u => exact I.after hq
    | next => exact False.elim hq
    | brk => exact False.elim hq
    | cont => exact False.elim hq
def tMethXd (C : Addr) (m : Str) (sp : Sp) (dvs : List V) (W : St → XK) (ta : TE) (t : TA) : TE := fun σ H Q => ta σ H fun x H1 => ∃ a dx fs, x = .ref a ∧ H1 a = some (.ins C dx fs) ∧ fs.lookup m = none ∧ t σ H1 fun vs H2 => sp ((x :: vs) ++ dvs) H2 Q (W σ)
theorem pe_methXd {pl : Sem Bool} (hx : ThrOn X W) (he : PE X o ta) (D : DmXd X.prog X.w X.K X.mg X.base k C m ps dvs sp) (hr : Room k X.A) (ha : PA X (e :: es) t)
    (hst : starEach (e :: es) X.env = (false, eval e X.env) :: starEach es X.env := by rfl) (hpl : (backTo pos (starEach es X.env)).any (·.1) = false := by rfl)
    (ht : eval (.Call (.Attribute o m apos) (e :: es) [] pos) X.env = (do
      let ov ← eval o X.env
      standAt apos.atName
      let (f, first) ← holding [ov] (getMethod ov m pl)
      callWith pos f first (backTo pos (starEach (e :: es) X.env)) (backToKw pos (keywordEach [] X.env))) := by rfl) :
    PE X (.Call (.Attribute o m apos) (e :: es) [] pos) (tMethXd C m sp dvs W ta t) := by
  obtain ⟨f, fd, ds, cl, hm, hb, hdv, F⟩ := D
  intro pins s σ H Q I h
  refine PySem.W.methodCall_KW (pl := pl) (thn (he pins s σ H _ I h) fun u s1 ⟨x, H1, I1, rx, a, dx, fs, ex, ea, l, q⟩ => ?_) ht
  subst ex
  obtain rfl : u = Value.ref a := rx
  refine getmeth_ok I1 ea cl hm l ?_
  refine PySem.W.callWith_K (first := [.ref a]) (h₀ := X.base) I.ok.mod.kin hm.kp (thn (ha pos pins s1 σ H1 _ I1 q) fun us s2 ⟨vs, H2, I2, r, q2⟩ => ⟨I2.kIn, ?_⟩) hst hpl
  exact run_fnXd (us := .ref a :: us) (vs := .ref a :: vs) F hr hb hdv hx I2 (.cons rfl r) q2
end
end L2
set_option maxRecDepth 100000
namespace L2.Wy
variable {ν : Type} [DecidableEq ν]
abbrev T (ν : Type) := Int × ν × ν × Int
def b2 (b : Bool) : Int := if b then 1 else 0
def term (U : Int → Bool) (p : ν → Bool) (t : T ν) : Int := if U t.1 then b2 (p t.2.1) - b2 (p t.2.2.1) else 0
def net (ts : List (T ν)) (U : Int → Bool) (p : ν → Bool) : Int := (ts.map (term U p)).sum
def stp (t : T ν) (x : ν) (U : Int → Bool) : Option ν := if U t.1 then (if t.2.2.1 = x then some t.2.1 else none) else (if t.2.1 = x then some t.2.2.1 else none)
def flip (U : Int → Bool) (k : Int) : Int → Bool := fun j => if j = k then !U j else U j
theorem flip_same (U : Int → Bool) (k : Int) : flip U k k = !U k := if_pos rfl
theorem flip_ne (U : Int → Bool) {k j : Int} (h : j ≠ k) : flip U k j = U j := if_neg h
theorem net_cons (t : T ν) (ts : List (T ν)) (U : Int → Bool) (p : ν → Bool) : net (t :: ts) U p = term U p t + net ts U p := by
  unfold net
  rw [List.map_cons, List.sum_cons]
theorem net_congr {ts : List (T ν)} {U V : Int → Bool} (p : ν → Bool) (h : ∀ t ∈ ts, U t.1 = V t.1) : net ts U p = net ts V p := by
  unfold net
  congr 1
  refine List.map_congr_left fun t ht => ?_
  unfold term
  rw [h t ht]
def Nums (ts : List (T ν)) : Prop := (ts.map (·.1)).Nodup
theorem Nums.tail {t : T ν} {ts : List (T ν)} (h : Nums (t :: ts)) : Nums ts := (List.nodup_cons.mp h).2
theorem Nums.ne {t u : T ν} {ts : List (T ν)} (h : Nums (t :: ts)) (hu : u ∈ ts) : u.1 ≠ t.1 := fun e => (List.nodup_cons.mp h).1 (by
  show t.1 ∈ ts.map (·.1)
  rw [← e]
  exact List.mem_map_of_mem (f := (·.1)) hu)
theorem Nums.inj {ts : List (T ν)} (h : Nums ts) {t u : T ν} (ht : t ∈ ts) (hu : u ∈ ts) (e : t.1 = u.1) : t = u := by
  induction ts with
  | nil => cases ht
  | cons a ts ih =>
    rcases List.mem_cons.mp ht with rfl | ht1
    · rcases List.mem_cons.mp hu with rfl | hu
      · rfl
      · exact absurd e.symm (h.ne hu)
    · rcases List.mem_cons.mp hu with rfl | hu
      · exact absurd e (h.ne (by assumption))
      · exact ih h.tail (by assumption) hu
theorem term_flip {U : Int → Bool} {p : ν → Bool} {t : T ν} {x y : ν} (h : stp t x U = some y) : term (flip U t.1) p t = term U p t + b2 (p x) - b2 (p y) := by
  unfold stp at h
  unfold term
  rw [flip_same]
  cases hU : U t.1 with
  | true =>
    rw [hU] at h
    rw [if_pos rfl] at h
    split at h
    · rename_i e
      cases h
      subst e
      simp
    · cases h
  | false =>
    rw [hU] at h
    rw [if_neg (by decide)] at h
    split at h
    · rename_i e
      cases h
      subst e
      simp
    · cases h
theorem net_flip {ts : List (T ν)} {U : Int → Bool} {p : ν → Bool} {t : T ν} {x y : ν} (nd : Nums ts) (ht : t ∈ ts) (h : stp t x U = some y) : net ts (flip U t.1) p = net ts U p + b2 (p x) - b2 (p y) := by
  induction ts with
  | nil => cases ht
  | cons a ts ih =>
    rw [net_cons, net_cons]
    rcases List.mem_cons.mp ht with rfl | ht
    · rw [term_flip h, net_congr p (U := flip U t.1) (V := U) (fun u hu => flip_ne U (nd.ne hu))]
      omega
    · rw [ih nd.tail ht]
      have : term (flip U t.1) p a = term U p a := by
        unfold term
        rw [flip_ne U (fun e => nd.ne ht e.symm)]
      rw [this]
      omega
def Flow (ts : List (T ν)) (U : Int → Bool) (h g : ν) (v : Int) : Prop := ∀ p : ν → Bool, net ts U p = v * (b2 (p h) - b2 (p g))
theorem Flow.none (ts : List (T ν)) (h g : ν) : Flow ts (fun _ => false) h g 0 := fun p => by
  rw [Int.zero_mul]
  unfold net
  induction ts with
  | nil => rfl
  | cons t ts ih =>
    rw [List.map_cons, List.sum_cons, ih]
    rfl
abbrev Cm (ν : Type) := List (ν × Option (Int × ν))
def keys (c : Cm ν) : List ν := c.map (·.1)
inductive Came (ts : List (T ν)) (U : Int → Bool) (h : ν) : Cm ν → Prop
  | one : Came ts U h [(h, none)]
  | snoc {cs : Cm ν} {x y : ν} {t : T ν} : Came ts U h cs → x ∈ keys cs → t ∈ ts → stp t x U = some y → ¬ y ∈ keys cs → Came ts U h (cs ++ [(y, some (t.1, x))])
theorem keys_append (a b : Cm ν) : keys (a ++ b) = keys a ++ keys b := List.map_append
theorem Came.nd {ts : List (T ν)} {U : Int → Bool} {h : ν} {cs : Cm ν} (C : Came ts U h cs) : (keys cs).Nodup := by
  induction C with
  | one => simp [keys]
  | snoc C hx ht hs hy ih =>
    rw [keys_append]
    refine List.nodup_append.mpr ⟨ih, by simp [keys], fun a ha b hb e => ?_⟩
    have : b = _ := List.mem_singleton.mp hb
    subst this
    subst e
    exact hy ha
theorem Came.home {ts : List (T ν)} {U : Int → Bool} {h : ν} {cs : Cm ν} (C : Came ts U h cs) : h ∈ keys cs := by
  induction C with
  | one => simp [keys]
  | snoc C hx ht hs hy ih => rw [keys_append]; exact List.mem_append_left _ ih
theorem Came.at {ts : List (T ν)} {U : Int → Bool} {h : ν} {cs : Cm ν} (C : Came ts U h cs) {pre post : Cm ν} {y : ν} {s : Option (Int × ν)} (e : cs = pre ++ (y, s) :: post) :
    (s = none ∧ y = h) ∨ ∃ t x, t ∈ ts ∧ s = some (t.1, x) ∧ x ∈ keys pre ∧ stp t x U = some y := by
  induction C generalizing post with
  | one =>
    cases pre with
    | nil =>
      rw [List.nil_append] at e
      injection e with e1 e2
      injection e1 with e1 e3
      exact .inl ⟨e3.symm, e1.symm⟩
    | cons a pre =>
      rw [List.cons_append] at e
      injection e with e1 e2
      exact absurd e2 (by simp)
  | @snoc cs x y' t C hx ht hs hy ih =>
    rcases List.eq_nil_or_concat post with rfl | ⟨post', q, rfl⟩
    · have e' : cs ++ [(y', some (t.1, x))] = pre ++ [(y, s)] := e
      obtain ⟨e1, e2⟩ := List.append_inj' e' rfl
      injection e2 with e2
      injection e2 with e3 e4
      subst e1 e3 e4
      exact .inr ⟨t, x, ht, rfl, hx, hs⟩
    · have e' : cs ++ [(y', some (t.1, x))] = (pre ++ (y, s) :: post') ++ [q] := by rw [e, List.concat_eq_append]; simp
      obtain ⟨e1, e2⟩ := List.append_inj' e' rfl
      exact ih e1
theorem stp_det {t : T ν} {U : Int → Bool} {x x' y y' : ν} (h : stp t x U = some y) (h' : stp t x' U = some y') : y = y' := by
  unfold stp at h h'
  split at h
  · rename_i hU
    rw [if_pos hU] at h'
    split at h
    · split at h'
      · cases h; cases h'; rfl
      · cases h'
    · cases h
  · rename_i hU
    rw [if_neg hU] at h'
    split at h
    · split at h'
      · cases h; cases h'; rfl
      · cases h'
    · cases h
theorem stp_congr {t : T ν} {U V : Int → Bool} (x : ν) (h : U t.1 = V t.1) : stp t x U = stp t x V := by
  unfold stp
  rw [h]
theorem mem_split {c : Cm ν} {y : ν} (h : y ∈ keys c) : ∃ pre s post, c = pre ++ (y, s) :: post := by
  obtain ⟨⟨y', s⟩, hq, rfl⟩ := List.mem_map.mp h
  obtain ⟨pre, post, e⟩ := List.append_of_mem hq
  exact ⟨pre, s, post, e⟩
structure Back (ts : List (T ν)) (U : Int → Bool) (g : ν) (c : Cm ν) (V : Int → Bool) (y : ν) (s : Option (Int × ν)) (n : Nat) : Prop where
  at' : ∃ pre post, c = pre ++ (y, s) :: post ∧ pre.length = n ∧ ∀ q ∈ pre ++ [(y, s)], ∀ k x, q.2 = some (k, x) → V k = U k
  nt : ∀ p, net ts V p = net ts U p + b2 (p y) - b2 (p g)
theorem Back.start {ts : List (T ν)} {U : Int → Bool} {g : ν} {c pre post : Cm ν} {s : Option (Int × ν)} (e : c = pre ++ (g, s) :: post) : Back ts U g c U g s pre.length :=
  ⟨⟨pre, post, e, rfl, fun _ _ _ _ _ => rfl⟩, fun p => by omega⟩
theorem Back.step {ts : List (T ν)} {U V : Int → Bool} {h g : ν} {c : Cm ν} (nd : Nums ts) (C : Came ts U h c) {y x : ν} {k : Int} {n : Nat} (B : Back ts U g c V y (some (k, x)) n) :
    ∃ s m, m < n ∧ Back ts U g c (flip V k) x s m := by
  obtain ⟨pre, post, e, hn, hV⟩ := B.at'
  rcases C.at e with ⟨e0, _⟩ | ⟨t, x', ht, es, hx, hs⟩
  · cases e0
  injection es with es
  injection es with e1 e2
  subst e1 e2
  have hVt : V t.1 = U t.1 := hV (y, some (t.1, x)) (List.mem_append_right _ (List.mem_singleton.mpr rfl)) _ _ rfl
  obtain ⟨pre', s, post', e3⟩ := mem_split hx
  have hlt : pre'.length < n := by
    rw [← hn, e3, List.length_append, List.length_cons]
    omega
  refine ⟨s, pre'.length, hlt, ⟨⟨pre', post' ++ (y, some (t.1, x)) :: post, by rw [e, e3]; simp, rfl, fun q hq k' x'' hq2 => ?_⟩, fun p => ?_⟩⟩
  · have hqp : q ∈ pre := by
      rw [e3]
      rcases List.mem_append.mp hq with hq | hq
      · exact List.mem_append_left _ hq
      · rw [List.mem_singleton.mp hq]; exact List.mem_append_right _ (List.mem_cons_self ..)
    have hne : k' ≠ t.1 := fun ek => by
      obtain ⟨a, b, eab⟩ := List.append_of_mem hqp
      have e5 : c = a ++ (q.1, q.2) :: (b ++ (y, some (t.1, x)) :: post) := by rw [e, eab]; simp
      rcases C.at e5 with ⟨e0, _⟩ | ⟨t2, x2, ht2, es2, _, hs2⟩
      · rw [hq2] at e0; cases e0
      · rw [hq2] at es2
        injection es2 with es2
        injection es2 with e6 e7
        have : t2 = t := nd.inj ht2 ht (e6.symm.trans ek)
        subst this
        have := stp_det hs2 hs
        have hk := C.nd
        rw [e, keys_append] at hk
        have h1 : q.1 ∈ keys pre := List.mem_map_of_mem hqp
        exact (List.nodup_append.mp hk).2.2 q.1 h1 y (by simp [keys]) this
    rw [flip_ne V hne]
    exact hV q (List.mem_append_left _ hqp) k' x'' hq2
  · rw [net_flip nd ht ((stp_congr x hVt).trans hs), B.nt p]
    omega
theorem Back.stop {ts : List (T ν)} {U V : Int → Bool} {h g : ν} {c : Cm ν} (C : Came ts U h c) {y : ν} {n : Nat} {v : Int} (B : Back ts U g c V y none n) (F : Flow ts U h g v) : Flow ts V h g (v + 1) := by
  obtain ⟨pre, post, e, hn, hV⟩ := B.at'
  rcases C.at e with ⟨_, rfl⟩ | ⟨t, x', ht, es, hx, hs⟩
  · intro p
    rw [B.nt p, F p, Int.add_mul, Int.one_mul]
    omega
  · cases es
def Closed (ts : List (T ν)) (U : Int → Bool) (p : ν → Bool) : Prop := ∀ t ∈ ts, ∀ x z, p x = true → stp t x U = some z → p z = true
def cutB (p : ν → Bool) (t : T ν) : Bool := p t.2.1 && !p t.2.2.1
def cutOf (ts : List (T ν)) (p : ν → Bool) : List (T ν) := ts.filter (cutB p)
theorem net_le (ts : List (T ν)) (U : Int → Bool) (p : ν → Bool) : net ts U p ≤ ((cutOf ts p).length : Int) := by
  unfold cutOf
  induction ts with
  | nil => exact Int.le_refl _
  | cons t ts ih =>
    rw [net_cons, List.filter_cons]
    have : term U p t ≤ b2 (cutB p t) := by
      unfold term cutB b2
      cases U t.1 <;> cases p t.2.1 <;> cases p t.2.2.1 <;> decide
    cases hc : cutB p t with
    | true =>
      rw [hc] at this
      rw [if_pos rfl, List.length_cons]
      have h1 : b2 true = 1 := rfl
      omega
    | false =>
      rw [hc] at this
      rw [if_neg (by decide)]
      have h1 : b2 false = 0 := rfl
      omega
theorem closed_term {U : Int → Bool} {p : ν → Bool} {t : T ν} (h : ∀ x z, p x = true → stp t x U = some z → p z = true) : term U p t = b2 (cutB p t) := by
  unfold term cutB b2
  cases hU : U t.1 with
  | true =>
    have := h t.2.2.1 t.2.1
    unfold stp at this
    rw [hU, if_pos rfl, if_pos rfl] at this
    cases h1 : p t.2.1 <;> cases h2 : p t.2.2.1 <;> simp_all
  | false =>
    have := h t.2.1 t.2.2.1
    unfold stp at this
    rw [hU, if_neg (by decide), if_pos rfl] at this
    cases h1 : p t.2.1 <;> cases h2 : p t.2.2.1 <;> simp_all
theorem net_closed {ts : List (T ν)} {U : Int → Bool} {p : ν → Bool} (h : Closed ts U p) : net ts U p = ((cutOf ts p).length : Int) := by
  unfold cutOf
  induction ts with
  | nil => rfl
  | cons t ts ih =>
    rw [net_cons, List.filter_cons, ih (fun u hu => h u (List.mem_cons_of_mem _ hu)), closed_term (h t (List.mem_cons_self ..))]
    cases cutB p t with
    | true =>
      rw [if_pos rfl, List.length_cons]
      have h1 : b2 true = 1 := rfl
      omega
    | false =>
      rw [if_neg (by decide)]
      have h1 : b2 false = 0 := rfl
      omega
theorem Flow.cut {ts : List (T ν)} {U : Int → Bool} {h g : ν} {v : Int} {p : ν → Bool} (F : Flow ts U h g v) (hc : Closed ts U p) (hh : p h = true) (hg : p g = false) : ((cutOf ts p).length : Int) = v := by
  have := F p
  rw [net_closed hc, hh, hg] at this
  rw [this]
  show v * (1 - 0) = v
  omega
theorem Flow.le {ts : List (T ν)} {U : Int → Bool} {h g : ν} {v : Int} {p : ν → Bool} (F : Flow ts U h g v) (hh : p h = true) (hg : p g = false) : v ≤ ((cutOf ts p).length : Int) := by
  have := net_le ts U p
  rw [F p, hh, hg] at this
  have e : v * (b2 true - b2 false) = v := by show v * (1 - 0) = v; omega
  rw [e] at this
  exact this
inductive Wlk (ts : List (T ν)) : ν → List (T ν) → ν → Prop
  | nil (x : ν) : Wlk ts x [] x
  | snoc {x : ν} {ws : List (T ν)} {t : T ν} : Wlk ts x ws t.2.1 → t ∈ ts → Wlk ts x (ws ++ [t]) t.2.2.1
def nums (ws : List (T ν)) : List Int := ws.map (·.1)
theorem Wlk.sub {ts : List (T ν)} {x y : ν} {ws : List (T ν)} (W : Wlk ts x ws y) : ∀ t ∈ ws, t ∈ ts := by
  induction W with
  | nil => exact fun t ht => nomatch ht
  | snoc W ht ih =>
    intro t h
    rcases List.mem_append.mp h with h | h
    · exact ih t h
    · rw [List.mem_singleton.mp h]; exact ht
theorem Wlk.up {ts : List (T ν)} {rk : ν → Nat} (hr : ∀ t ∈ ts, rk t.2.1 < rk t.2.2.1) {x y : ν} {ws : List (T ν)} (W : Wlk ts x ws y) : rk x + ws.length ≤ rk y ∧ (∀ t ∈ ws, rk t.2.1 < rk y) ∧ ws.Nodup := by
  induction W with
  | nil => exact ⟨Nat.le_refl _, (fun t ht => nomatch ht), List.nodup_nil⟩
  | @snoc ws t W ht ih =>
    have := hr _ ht
    obtain ⟨i1, i2, i3⟩ := ih
    refine ⟨by rw [List.length_append, List.length_singleton]; omega, fun u hu => ?_, ?_⟩
    · rcases List.mem_append.mp hu with hu | hu
      · have := i2 u hu; omega
      · rw [List.mem_singleton.mp hu]; exact this
    · refine List.nodup_append.mpr ⟨i3, by simp, fun a ha b hb e => ?_⟩
      have eb := List.mem_singleton.mp hb
      subst eb
      subst e
      have := i2 a ha
      omega
theorem nums_nodup {ts ws : List (T ν)} (nd : Nums ts) (hs : ∀ t ∈ ws, t ∈ ts) (h : ws.Nodup) : (nums ws).Nodup := by
  induction ws with
  | nil => exact List.nodup_nil
  | cons a ws ih =>
    obtain ⟨h1, h2⟩ := List.nodup_cons.mp h
    refine List.nodup_cons.mpr ⟨fun z => ?_, ih (fun t ht => hs t (List.mem_cons_of_mem _ ht)) h2⟩
    obtain ⟨u, hu, e⟩ := List.mem_map.mp z
    have := nd.inj (hs u (List.mem_cons_of_mem _ hu)) (hs a (List.mem_cons_self ..)) e
    exact h1 (this ▸ hu)
def without (U : Int → Bool) (ks : List Int) : Int → Bool := fun k => U k && !decide (k ∈ ks)
theorem net_without {ts : List (T ν)} (nd : Nums ts) {U : Int → Bool} (p : ν → Bool) {x y : ν} {ws : List (T ν)} (W : Wlk (ts.filter fun t => U t.1) x ws y) (hn : (nums ws).Nodup) :
    net ts (without U (nums ws)) p = net ts U p - b2 (p x) + b2 (p y) := by
  induction W with
  | nil =>
    rw [net_congr (V := U) p fun t _ => by simp [without, nums]]
    omega
  | @snoc ws t W ht ih =>
    have hn' : (nums ws ++ [t.1]).Nodup := by
      have : nums (ws ++ [t]) = nums ws ++ [t.1] := List.map_append
      rw [this] at hn
      exact hn
    obtain ⟨n1, _, n3⟩ := List.nodup_append.mp hn'
    have hnew : ¬ t.1 ∈ nums ws := fun z => n3 t.1 z t.1 (List.mem_singleton.mpr rfl) rfl
    have hts := (List.mem_filter.mp ht).1
    have hU : U t.1 = true := (List.mem_filter.mp ht).2
    have hV : without U (nums ws) t.1 = true := by unfold without; rw [hU, decide_eq_false hnew]; rfl
    have hs : stp t t.2.2.1 (without U (nums ws)) = some t.2.1 := by unfold stp; rw [hV, if_pos rfl, if_pos rfl]
    have e : net ts (without U (nums (ws ++ [t]))) p = net ts (flip (without U (nums ws)) t.1) p := net_congr p fun u _ => by
      have e2 : nums (ws ++ [t]) = nums ws ++ [t.1] := List.map_append
      by_cases hu : u.1 = t.1
      · rw [hu, flip_same, hV]
        unfold without
        rw [e2, decide_eq_true (by simp)]
        simp
      · rw [flip_ne _ hu]
        unfold without
        rw [e2]
        simp [hu]
    rw [e, net_flip nd hts hs, ih n1]
    omega
theorem Flow.without {ts : List (T ν)} (nd : Nums ts) {U : Int → Bool} {h g : ν} {v : Int} (F : Flow ts U h g v) {ws : List (T ν)} (W : Wlk (ts.filter fun t => U t.1) h ws g) (hn : (nums ws).Nodup) : Flow ts (Wy.without U (nums ws)) h g (v - 1) := fun p => by
  rw [net_without nd p W hn, F p, Int.sub_mul, Int.one_mul]
  omega
theorem out_of {ts : List (T ν)} {U : Int → Bool} {x : ν} (h : 0 ≤ net ts U (fun z => decide (z = x))) (hi : 0 < net ts U (fun z => decide (z = x)) ∨ ∃ t ∈ ts, U t.1 = true ∧ t.2.2.1 = x ∧ t.2.1 ≠ x) : ∃ t ∈ ts, U t.1 = true ∧ t.2.1 = x := by
  by_cases hx : ∃ t ∈ ts, U t.1 = true ∧ t.2.1 = x
  · exact hx
  · exfalso
    have key : ∀ ts : List (T ν), (∀ t ∈ ts, ¬ (U t.1 = true ∧ t.2.1 = x)) → net ts U (fun z => decide (z = x)) ≤ 0 ∧ ((∃ t ∈ ts, U t.1 = true ∧ t.2.2.1 = x ∧ t.2.1 ≠ x) → net ts U (fun z => decide (z = x)) < 0) := by
      intro ts hts
      induction ts with
      | nil => exact ⟨Int.le_refl _, fun ⟨t, ht, _⟩ => nomatch ht⟩
      | cons a ts ih =>
        obtain ⟨i1, i2⟩ := ih fun t ht => hts t (List.mem_cons_of_mem _ ht)
        have ha := hts a (List.mem_cons_self ..)
        rw [net_cons]
        have t0 : term U (fun z => decide (z = x)) a ≤ 0 := by
          unfold term
          split
          · rename_i hU
            show b2 (decide (a.2.1 = x)) - b2 (decide (a.2.2.1 = x)) ≤ 0
            rw [decide_eq_false (fun e => ha ⟨hU, e⟩)]
            unfold b2
            cases decide (a.2.2.1 = x) <;> decide
          · exact Int.le_refl _
        refine ⟨by omega, fun ⟨t, ht, h1, h2, h3⟩ => ?_⟩
        rcases List.mem_cons.mp ht with rfl | ht
        · have : term U (fun z => decide (z = x)) t = -1 := by
            unfold term
            rw [if_pos h1]
            show b2 (decide (t.2.1 = x)) - b2 (decide (t.2.2.1 = x)) = -1
            rw [decide_eq_false h3, decide_eq_true h2]
            rfl
          omega
        · have := i2 ⟨t, ht, h1, h2, h3⟩
          omega
    obtain ⟨k1, k2⟩ := key ts fun t ht z => hx ⟨t, ht, z⟩
    rcases hi with hi | hi
    · omega
    · have := k2 hi; omega
theorem Flow.goes_on {ts : List (T ν)} {U : Int → Bool} {rk : ν → Nat} (hr : ∀ t ∈ ts, rk t.2.1 < rk t.2.2.1) {h g x : ν} {v : Int} (F : Flow ts U h g v) (hv : 0 < v) (hg : x ≠ g) {ws : List (T ν)} (W : Wlk (ts.filter fun t => U t.1) h ws x) : ∃ t ∈ ts, U t.1 = true ∧ t.2.1 = x := by
  have e := F (fun z => decide (z = x))
  rw [decide_eq_false (show ¬ g = x from fun z => hg z.symm)] at e
  by_cases hh : h = x
  · rw [decide_eq_true hh] at e
    have : net ts U (fun z => decide (z = x)) = v := by rw [e]; show v * (1 - 0) = v; omega
    exact out_of (by omega) (.inl (by omega))
  · rw [decide_eq_false hh] at e
    have e0 : net ts U (fun z => decide (z = x)) = 0 := by rw [e]; show v * (0 - 0) = 0; omega
    refine out_of (by omega) (.inr ?_)
    cases W with
    | nil => exact absurd rfl hh
    | @snoc ws t W ht =>
      have := hr t (List.mem_filter.mp ht).1
      exact ⟨t, (List.mem_filter.mp ht).1, (List.mem_filter.mp ht).2, rfl, fun z => by rw [z] at this; omega⟩
theorem Wlk.cross {ts : List (T ν)} {U : Int → Bool} {p : ν → Bool} (hc : Closed ts U p) {x y : ν} {ws : List (T ν)} (W : Wlk (ts.filter fun t => U t.1) x ws y) : ((ws.filter (cutB p)).length : Int) = b2 (p x) - b2 (p y) := by
  induction W with
  | nil => show (0 : Int) = _; omega
  | @snoc ws t W ht ih =>
    have hts := (List.mem_filter.mp ht).1
    have hU : U t.1 = true := (List.mem_filter.mp ht).2
    have := closed_term (hc t hts)
    unfold term at this
    rw [hU, if_pos rfl] at this
    rw [List.filter_append, List.length_append]
    have e2 : (([t].filter (cutB p)).length : Int) = b2 (cutB p t) := by
      cases h : cutB p t <;> simp [h, b2]
    have : (((ws.filter (cutB p)).length + ([t].filter (cutB p)).length : Nat) : Int) = ((ws.filter (cutB p)).length : Int) + (([t].filter (cutB p)).length : Int) := by omega
    omega
end L2.Wy
set_option maxRecDepth 100000
namespace L2.Wy
variable {ν : Type} [DecidableEq ν]
def look (U : Int → Bool) (x : ν) : List (T ν) → Cm ν × List ν → Cm ν × List ν
  | [], s => s
  | t :: r, s => match stp t x U with
    | some z => if z ∈ keys s.1 then look U x r s else look U x r (s.1 ++ [(z, some (t.1, x))], s.2 ++ [z])
    | none => look U x r s
def touch (ts : List (T ν)) (x : ν) : List (T ν) := ts.filter fun t => decide (t.2.1 = x) || decide (t.2.2.1 = x)
def bfs (ts : List (T ν)) (U : Int → Bool) : Nat → Cm ν × List ν → Cm ν
  | 0, s => s.1
  | n + 1, s => match s.2 with
    | [] => s.1
    | x :: w => bfs ts U n (look U x (touch ts x) (s.1, w))
def reach (ts : List (T ν)) (U : Int → Bool) (N : Nat) : Option ν → Cm ν
  | none => []
  | some h => bfs ts U N ([(h, none)], [h])
structure Bf (ts : List (T ν)) (U : Int → Bool) (h : ν) (c : Cm ν) (d w : List ν) : Prop where
  came : Came ts U h c
  ks : keys c = d ++ w
  done : ∀ x ∈ d, ∀ t ∈ ts, ∀ z, stp t x U = some z → z ∈ keys c
theorem Bf.start (ts : List (T ν)) (U : Int → Bool) (h : ν) : Bf ts U h [(h, none)] [] [h] := ⟨.one, rfl, fun x hx => nomatch hx⟩
theorem look_ok {ts : List (T ν)} {U : Int → Bool} {h x : ν} {d : List ν} : ∀ (r : List (T ν)) (s : Cm ν × List ν), (∀ t ∈ r, t ∈ ts) → Came ts U h s.1 → keys s.1 = d ++ s.2 → x ∈ d →
    Came ts U h (look U x r s).1 ∧ keys (look U x r s).1 = d ++ (look U x r s).2 ∧ (∀ z ∈ keys s.1, z ∈ keys (look U x r s).1) ∧ ∀ t ∈ r, ∀ z, stp t x U = some z → z ∈ keys (look U x r s).1
  | [], s, _, C, k, _ => ⟨C, k, fun z hz => hz, fun t ht => nomatch ht⟩
  | t :: r, s, hr, C, k, hx => by
    have hr' : ∀ t ∈ r, t ∈ ts := fun u hu => hr u (List.mem_cons_of_mem _ hu)
    unfold look
    cases hs : stp t x U with
    | none =>
      obtain ⟨a, b, c, e⟩ := look_ok r s hr' C k hx
      refine ⟨a, b, c, fun u hu z hz => ?_⟩
      rcases List.mem_cons.mp hu with rfl | hu
      · rw [hs] at hz; cases hz
      · exact e u hu z hz
    | some y =>
      show Came ts U h (if y ∈ keys s.1 then look U x r s else _).1 ∧ _
      by_cases hy : y ∈ keys s.1
      · simp only [if_pos hy]
        obtain ⟨a, b, c, e⟩ := look_ok r s hr' C k hx
        refine ⟨a, b, c, fun u hu z hz => ?_⟩
        rcases List.mem_cons.mp hu with rfl | hu
        · rw [hs] at hz; cases hz; exact c _ hy
        · exact e u hu z hz
      · simp only [if_neg hy]
        have C' : Came ts U h (s.1 ++ [(y, some (t.1, x))]) := .snoc C (by rw [k]; exact List.mem_append_left _ hx) (hr t (List.mem_cons_self ..)) hs hy
        have k' : keys (s.1 ++ [(y, some (t.1, x))]) = d ++ (s.2 ++ [y]) := by rw [keys_append, k, List.append_assoc]; rfl
        obtain ⟨a, b, c, e⟩ := look_ok r (s.1 ++ [(y, some (t.1, x))], s.2 ++ [y]) hr' C' k' hx
        have hyk : y ∈ keys (s.1 ++ [(y, some (t.1, x))]) := by rw [keys_append]; exact List.mem_append_right _ (by simp [keys])
        refine ⟨a, b, fun z hz => c z (by rw [keys_append]; exact List.mem_append_left _ hz), fun u hu z hz => ?_⟩
        rcases List.mem_cons.mp hu with rfl | hu
        · rw [hs] at hz; cases hz; exact c _ hyk
        · exact e u hu z hz
theorem stp_touch {t : T ν} {U : Int → Bool} {x z : ν} (h : stp t x U = some z) : t.2.1 = x ∨ t.2.2.1 = x := by
  unfold stp at h
  split at h
  · split at h
    · exact .inr (by assumption)
    · cases h
  · split at h
    · exact .inl (by assumption)
    · cases h
theorem Bf.step {ts : List (T ν)} {U : Int → Bool} {h x : ν} {c : Cm ν} {d w : List ν} (B : Bf ts U h c d (x :: w)) : Bf ts U h (look U x (touch ts x) (c, w)).1 (d ++ [x]) (look U x (touch ts x) (c, w)).2 := by
  obtain ⟨a, b, m, e⟩ := look_ok (U := U) (h := h) (x := x) (d := d ++ [x]) (touch ts x) (c, w) (fun t ht => (List.mem_filter.mp ht).1) B.came (by rw [B.ks]; simp) (by simp)
  refine ⟨a, b, fun y hy t ht z hz => ?_⟩
  rcases List.mem_append.mp hy with hy | hy
  · exact m z (B.done y hy t ht z hz)
  · have hyx := List.mem_singleton.mp hy
    rw [hyx] at hz
    refine e t (List.mem_filter.mpr ⟨ht, ?_⟩) z hz
    rw [Bool.or_eq_true]
    rcases stp_touch hz with h | h
    · exact .inl (decide_eq_true h)
    · exact .inr (decide_eq_true h)
def Ends (ts : List (T ν)) (nm : List ν) : Prop := ∀ t ∈ ts, t.2.1 ∈ nm ∧ t.2.2.1 ∈ nm
theorem stp_mem {t : T ν} {U : Int → Bool} {x z : ν} (h : stp t x U = some z) : z = t.2.1 ∨ z = t.2.2.1 := by
  unfold stp at h
  split at h
  · split at h
    · cases h; exact .inl rfl
    · cases h
  · split at h
    · cases h; exact .inr rfl
    · cases h
theorem Came.names {ts : List (T ν)} {U : Int → Bool} {h : ν} {c : Cm ν} {nm : List ν} (C : Came ts U h c) (E : Ends ts nm) (hh : h ∈ nm) : ∀ z ∈ keys c, z ∈ nm := by
  induction C with
  | one => intro z hz; rw [List.mem_singleton.mp hz]; exact hh
  | snoc C hx ht hs hy ih =>
    intro z hz
    rw [keys_append] at hz
    rcases List.mem_append.mp hz with hz | hz
    · exact ih z hz
    · rw [List.mem_singleton.mp hz]
      rcases stp_mem hs with e | e
      · rw [e]; exact (E _ ht).1
      · rw [e]; exact (E _ ht).2
theorem sub_len {xs ys : List ν} (nd : xs.Nodup) (h : ∀ x ∈ xs, x ∈ ys) : xs.length ≤ ys.length := by
  induction xs generalizing ys with
  | nil => exact Nat.zero_le _
  | cons a xs ih =>
    obtain ⟨n1, n2⟩ := List.nodup_cons.mp nd
    have ha := h a (List.mem_cons_self ..)
    have := ih (ys := ys.erase a) n2 fun x hx => (List.mem_erase_of_ne (fun e => n1 (by rw [← e]; exact hx))).mpr (h x (List.mem_cons_of_mem _ hx))
    rw [List.length_erase_of_mem ha] at this
    have := List.length_pos_of_mem ha
    rw [List.length_cons]
    omega
theorem Bf.len {ts : List (T ν)} {U : Int → Bool} {h : ν} {c : Cm ν} {d w nm : List ν} (B : Bf ts U h c d w) (E : Ends ts nm) (hh : h ∈ nm) : d.length + w.length ≤ nm.length ∧ c.length ≤ nm.length := by
  have := sub_len B.came.nd (B.came.names E hh)
  have e : (keys c).length = c.length := List.length_map _
  have e2 := congrArg List.length B.ks
  rw [List.length_append] at e2
  omega
structure Rea (ts : List (T ν)) (U : Int → Bool) (h : ν) (c : Cm ν) : Prop where
  came : Came ts U h c
  all : ∀ x ∈ keys c, ∀ t ∈ ts, ∀ z, stp t x U = some z → z ∈ keys c
theorem bfs_ok {ts : List (T ν)} {U : Int → Bool} {h : ν} {nm : List ν} (E : Ends ts nm) (hh : h ∈ nm) : ∀ (n : Nat) (c : Cm ν) (d w : List ν), Bf ts U h c d w → nm.length ≤ n + d.length → Rea ts U h (bfs ts U n (c, w))
  | 0, c, d, w, B, hn => by
    have hl := (B.len E hh).1
    have hw : w = [] := List.length_eq_zero_iff.mp (by omega)
    subst hw
    exact ⟨B.came, fun x hx => B.done x (by have := B.ks; rw [List.append_nil] at this; rw [← this]; exact hx)⟩
  | n + 1, c, d, [], B, hn => ⟨B.came, fun x hx => B.done x (by have := B.ks; rw [List.append_nil] at this; rw [← this]; exact hx)⟩
  | n + 1, c, d, x :: w, B, hn => bfs_ok E hh n _ (d ++ [x]) _ B.step (by rw [List.length_append, List.length_singleton]; omega)
theorem reach_ok {ts : List (T ν)} {U : Int → Bool} {h : ν} {nm : List ν} (E : Ends ts nm) (hh : h ∈ nm) {N : Nat} (hN : nm.length ≤ N) : Rea ts U h (reach ts U N (some h)) := bfs_ok E hh N _ [] [h] (Bf.start ts U h) (by simpa using hN)
theorem Rea.closed {ts : List (T ν)} {U : Int → Bool} {h : ν} {c : Cm ν} (R : Rea ts U h c) : Closed ts U (fun z => decide (z ∈ keys c)) := fun t ht x z hx hs => decide_eq_true (R.all x (of_decide_eq_true hx) t ht z hs)
def tog (U : List Int) (k : Int) : List Int := if k ∈ U then U.filter (fun j => !decide (j = k)) else U ++ [k]
def inU (U : List Int) : Int → Bool := fun k => decide (k ∈ U)
theorem tog_in (U : List Int) (k : Int) : inU (tog U k) = flip (inU U) k := by
  funext j
  unfold inU tog flip
  by_cases hk : k ∈ U
  · rw [if_pos hk]
    by_cases hj : j = k
    · subst hj
      rw [if_pos rfl]
      show _ = !decide (j ∈ U)
      rw [decide_eq_true hk]
      simp
    · rw [if_neg hj]
      simp [hj]
  · rw [if_neg hk]
    by_cases hj : j = k
    · subst hj
      rw [if_pos rfl]
      show _ = !decide (j ∈ U)
      rw [decide_eq_false hk]
      simp
    · rw [if_neg hj]
      simp [hj]
theorem tog_nodup {U : List Int} (h : U.Nodup) (k : Int) : (tog U k).Nodup := by
  unfold tog
  split
  · exact h.filter _
  · rename_i hk
    refine List.nodup_append.mpr ⟨h, by simp, fun a ha b hb e => ?_⟩
    rw [List.mem_singleton.mp hb] at e
    exact hk (e ▸ ha)
def stepOf (c : Cm ν) (y : ν) : Option (Int × ν) := (c.find? fun q => decide (q.1 = y)).bind (·.2)
theorem stepOf_at {c pre post : Cm ν} {y : ν} {s : Option (Int × ν)} (nd : (keys c).Nodup) (e : c = pre ++ (y, s) :: post) : c.find? (fun q => decide (q.1 = y)) = some (y, s) ∧ stepOf c y = s := by
  have h1 : c.find? (fun q => decide (q.1 = y)) = some (y, s) := by
    rw [e, keys_append] at nd
    have hno : pre.find? (fun q => decide (q.1 = y)) = none := List.find?_eq_none.mpr fun q hq z => (List.nodup_append.mp nd).2.2 q.1 (List.mem_map_of_mem hq) y (by simp [keys]) (of_decide_eq_true z)
    rw [e, List.find?_append, hno]
    simp
  refine ⟨h1, ?_⟩
  unfold stepOf
  rw [h1]
  rfl
def useF (c : Cm ν) : Nat → List Int → Option (Int × ν) → List Int
  | 0, U, _ => U
  | _ + 1, U, none => U
  | n + 1, U, some s => useF c n (tog U s.1) (stepOf c s.2)
theorem useF_some (c : Cm ν) (n : Nat) (U : List Int) (k : Int) (x : ν) : useF c (n + 1) U (some (k, x)) = useF c n (tog U k) (stepOf c x) := rfl
theorem Back.look {ts : List (T ν)} {U V : Int → Bool} {h g y : ν} {c : Cm ν} {s : Option (Int × ν)} {n : Nat} (C : Came ts U h c) (B : Back ts U g c V y s n) : stepOf c y = s ∧ c.find? (fun q => decide (q.1 = y)) = some (y, s) ∧ n < c.length := by
  obtain ⟨pre, post, e, hn, _⟩ := B.at'
  obtain ⟨h1, h2⟩ := stepOf_at C.nd e
  refine ⟨h2, h1, ?_⟩
  rw [e, List.length_append, List.length_cons]
  omega
theorem useF_ok {ts : List (T ν)} {U : Int → Bool} {h g : ν} {c : Cm ν} {v : Int} (nd : Nums ts) (C : Came ts U h c) (F : Flow ts U h g v) : ∀ (n m : Nat) (V : List Int) (y : ν) (s : Option (Int × ν)), Back ts U g c (inU V) y s m → m < n → V.Nodup → Flow ts (inU (useF c n V s)) h g (v + 1) ∧ (useF c n V s).Nodup
  | 0, m, V, y, s, B, hm, _ => absurd hm (Nat.not_lt_zero _)
  | n + 1, m, V, y, none, B, hm, hV => ⟨B.stop C F, hV⟩
  | n + 1, m, V, y, some (k, x), B, hm, hV => by
    obtain ⟨s', m', hlt, B'⟩ := B.step nd C
    rw [← tog_in] at B'
    have e := (B'.look C).1
    rw [useF_some, e]
    exact useF_ok nd C F n m' (tog V k) x s' B' (by omega) (tog_nodup hV k)
theorem useF_flow {ts : List (T ν)} {U : List Int} {h g : ν} {c : Cm ν} {v : Int} (nd : Nums ts) (C : Came ts (inU U) h c) (F : Flow ts (inU U) h g v) (hg : g ∈ keys c) (hU : U.Nodup) {n : Nat} (hn : c.length ≤ n) : Flow ts (inU (useF c n U (stepOf c g))) h g (v + 1) ∧ (useF c n U (stepOf c g)).Nodup := by
  obtain ⟨pre, s, post, e⟩ := mem_split hg
  have B := Back.start (ts := ts) (U := inU U) e
  rw [(B.look C).1]
  exact useF_ok nd C F n _ U g s B (Nat.lt_of_lt_of_le (B.look C).2.2 hn) hU
def cutK (ts : List (T ν)) (c : Cm ν) : List Int := nums (cutOf ts fun z => decide (z ∈ keys c))
def waysF (ts : List (T ν)) (h : Option ν) (g : ν) (N : Nat) : Nat → List Int → Sum (List Int) (List Int)
  | 0, U => .inr U
  | m + 1, U => if g ∈ keys (reach ts (inU U) N h) then waysF ts h g N m (useF (reach ts (inU U) N h) N U (stepOf (reach ts (inU U) N h) g)) else .inl (cutK ts (reach ts (inU U) N h))
theorem waysF_succ (ts : List (T ν)) (h : Option ν) (g : ν) (N m : Nat) (U : List Int) : waysF ts h g N (m + 1) U = if g ∈ keys (reach ts (inU U) N h) then waysF ts h g N m (useF (reach ts (inU U) N h) N U (stepOf (reach ts (inU U) N h) g)) else .inl (cutK ts (reach ts (inU U) N h)) := rfl
structure CutOk (ts : List (T ν)) (h g : ν) (U : List Int) (ks : List Int) (p : ν → Bool) : Prop where
  closed : Closed ts (inU U) p
  hh : p h = true
  hg : p g = false
  ks : ks = nums (cutOf ts p)
theorem waysF_ok {ts : List (T ν)} {h g : ν} {nm : List ν} (nd : Nums ts) (E : Ends ts nm) (hh : h ∈ nm) {N : Nat} (hN : nm.length ≤ N) : ∀ (m : Nat) (U : List Int) (v : Int), Flow ts (inU U) h g v → U.Nodup →
    (∀ V, waysF ts (some h) g N m U = .inr V → Flow ts (inU V) h g (v + m) ∧ V.Nodup) ∧
    (∀ ks, waysF ts (some h) g N m U = .inl ks → ∃ (i : Nat) (V : List Int) (p : ν → Bool), i < m ∧ waysF ts (some h) g N i U = .inr V ∧ Flow ts (inU V) h g (v + i) ∧ CutOk ts h g V ks p ∧ (ks.length : Int) = v + i)
  | 0, U, v, F, hU => ⟨fun V e => by cases e; exact ⟨by simpa using F, hU⟩, fun ks e => by cases e⟩
  | m + 1, U, v, F, hU => by
    have R := reach_ok (U := inU U) E hh hN
    rw [waysF_succ]
    generalize hc : reach ts (inU U) N (some h) = c at R
    have cl : c.length ≤ N := by
      have := sub_len R.came.nd (R.came.names E hh)
      have e : (keys c).length = c.length := List.length_map _
      omega
    by_cases hg : g ∈ keys c
    · rw [if_pos hg]
      obtain ⟨F', hU'⟩ := useF_flow nd R.came F hg hU cl
      obtain ⟨a, b⟩ := waysF_ok nd E hh hN m _ (v + 1) F' hU'
      refine ⟨fun V e => ?_, fun ks e => ?_⟩
      · have := a V e
        rw [show v + ((m + 1 : Nat) : Int) = v + 1 + (m : Int) by omega]
        exact this
      · obtain ⟨i, V, p, hi, e1, e2, e3, e4⟩ := b ks e
        refine ⟨i + 1, V, p, by omega, ?_, ?_, e3, by omega⟩
        · rw [waysF_succ, hc, if_pos hg]
          exact e1
        · rw [show v + ((i + 1 : Nat) : Int) = v + 1 + (i : Int) by omega]
          exact e2
    · rw [if_neg hg]
      refine ⟨(fun V e => by cases e), fun ks e => ?_⟩
      cases e
      have hh' : decide (h ∈ keys c) = true := decide_eq_true R.came.home
      have hg' : decide (g ∈ keys c) = false := decide_eq_false hg
      refine ⟨0, U, fun z => decide (z ∈ keys c), by omega, rfl, by simpa using F, ⟨R.closed, hh', hg', rfl⟩, ?_⟩
      have := F.cut R.closed hh' hg'
      unfold cutK nums
      rw [List.length_map, this]
      simp
def outOf (L : List (T ν)) (x : ν) : Option (T ν) := L.find? fun t => decide (t.2.1 = x)
def oneF (L : List (T ν)) (g : ν) : Nat → ν → List (T ν)
  | 0, _ => []
  | n + 1, x => if x = g then [] else match outOf L x with
    | none => []
    | some t => t :: oneF L g n t.2.2.1
theorem oneF_succ (L : List (T ν)) (g x : ν) (n : Nat) : oneF L g (n + 1) x = if x = g then [] else match outOf L x with
    | none => []
    | some t => t :: oneF L g n t.2.2.1 := by
  conv => lhs; unfold oneF
theorem oneF_next {L : List (T ν)} {g x : ν} {n : Nat} {t : T ν} (h : ¬ x = g) (ho : outOf L x = some t) : oneF L g (n + 1) x = t :: oneF L g n t.2.2.1 := by
  rw [oneF_succ, if_neg h, ho]
theorem oneF_none {L : List (T ν)} {g x : ν} {n : Nat} (h : ¬ x = g) (ho : outOf L x = none) : oneF L g (n + 1) x = [] := by
  rw [oneF_succ, if_neg h, ho]
theorem oneF_goal {L : List (T ν)} {g x : ν} {n : Nat} (h : x = g) : oneF L g n x = [] := by
  cases n with
  | zero => rfl
  | succ n => rw [oneF_succ, if_pos h]
theorem out_mem {L : List (T ν)} {x : ν} {t : T ν} (h : outOf L x = some t) : t ∈ L ∧ t.2.1 = x := ⟨List.mem_of_find?_eq_some h, by simpa using List.find?_some h⟩
theorem Wlk.trans {ts : List (T ν)} {x y z : ν} {ws vs : List (T ν)} (A : Wlk ts x ws y) (B : Wlk ts y vs z) : Wlk ts x (ws ++ vs) z := by
  induction B with
  | nil => rw [List.append_nil]; exact A
  | snoc B ht ih => rw [← List.append_assoc]; exact .snoc ih ht
theorem oneF_ok {ts : List (T ν)} {U : Int → Bool} {rk : ν → Nat} (hr : ∀ t ∈ ts, rk t.2.1 < rk t.2.2.1) {h g : ν} {v : Int} (F : Flow ts U h g v) (hv : 0 < v) {N : Nat} (hN : ∀ z, rk z < N) : ∀ (n : Nat) (x : ν) (ws : List (T ν)), Wlk (ts.filter fun t => U t.1) h ws x → N ≤ n + rk x → Wlk (ts.filter fun t => U t.1) h (ws ++ oneF (ts.filter fun t => U t.1) g n x) g
  | 0, x, ws, W, hn => absurd (hN x) (by omega)
  | n + 1, x, ws, W, hn => by
    unfold oneF
    by_cases hx : x = g
    · rw [if_pos hx, List.append_nil, ← hx]
      exact W
    · rw [if_neg hx]
      cases ho : outOf (ts.filter fun t => U t.1) x with
      | none =>
        obtain ⟨t, ht, hU, e⟩ := F.goes_on hr hv hx W
        exact absurd (decide_eq_true e) (List.find?_eq_none.mp ho t (List.mem_filter.mpr ⟨ht, hU⟩))
      | some t =>
        obtain ⟨h1, h2⟩ := out_mem ho
        subst h2
        have := hr t (List.mem_filter.mp h1).1
        have := oneF_ok hr F hv hN n t.2.2.1 (ws ++ [t]) (.snoc W h1) (by omega)
        rw [List.append_assoc] at this
        exact this
def partF (h g : ν) (N : Nat) : Nat → List (T ν) → List (List Int)
  | 0, _ => []
  | m + 1, L => nums (oneF L g N h) :: partF h g N m (L.filter fun t => !decide (t.1 ∈ nums (oneF L g N h)))
theorem partF_ok {ts : List (T ν)} (nd : Nums ts) {rk : ν → Nat} (hr : ∀ t ∈ ts, rk t.2.1 < rk t.2.2.1) {h g : ν} {N : Nat} (hN : ∀ z, rk z < N) : ∀ (m : Nat) (U : Int → Bool), Flow ts U h g (m : Int) →
    ∃ wss : List (List (T ν)), partF h g N m (ts.filter fun t => U t.1) = wss.map nums ∧ wss.length = m ∧ (∀ ws ∈ wss, Wlk (ts.filter fun t => U t.1) h ws g) ∧ (wss.map nums).flatten.Nodup
  | 0, U, F => ⟨[], rfl, rfl, (fun ws hw => nomatch hw), List.nodup_nil⟩
  | m + 1, U, F => by
    have W := oneF_ok hr F (by omega) hN N h [] (.nil h) (by omega)
    rw [List.nil_append] at W
    unfold partF
    generalize oneF (ts.filter fun t => U t.1) g N h = ws at W
    have up := W.up (rk := rk) fun t ht => hr t (List.mem_filter.mp ht).1
    have hn := nums_nodup nd (fun t ht => (List.mem_filter.mp (W.sub t ht)).1) up.2.2
    have F' := F.without nd W hn
    rw [show ((m + 1 : Nat) : Int) - 1 = (m : Int) by omega] at F'
    obtain ⟨wss, e, hl, hw, hnd⟩ := partF_ok nd hr hN m _ F'
    have ef : (ts.filter fun t => U t.1).filter (fun t => !decide (t.1 ∈ nums ws)) = ts.filter fun t => Wy.without U (nums ws) t.1 := by
      rw [List.filter_filter]
      refine List.filter_congr fun t _ => ?_
      unfold Wy.without
      rw [Bool.and_comm]
    rw [ef, e]
    have hsub : ∀ vs ∈ wss, Wlk (ts.filter fun t => U t.1) h vs g ∧ ∀ k ∈ nums vs, ¬ k ∈ nums ws := fun vs hv => by
      have V := hw vs hv
      have : ∀ {x y : ν} {vs : List (T ν)}, Wlk (ts.filter fun t => Wy.without U (nums ws) t.1) x vs y → Wlk (ts.filter fun t => U t.1) x vs y := by
        intro x y vs V
        induction V with
        | nil => exact .nil _
        | snoc V ht ih =>
          refine .snoc ih ?_
          obtain ⟨a, b⟩ := List.mem_filter.mp ht
          unfold Wy.without at b
          rw [Bool.and_eq_true] at b
          exact List.mem_filter.mpr ⟨a, b.1⟩
      refine ⟨this V, fun k hk z => ?_⟩
      obtain ⟨t, ht, rfl⟩ := List.mem_map.mp hk
      obtain ⟨a, b⟩ := List.mem_filter.mp (V.sub t ht)
      unfold Wy.without at b
      rw [decide_eq_true z] at b
      simp at b
    refine ⟨ws :: wss, rfl, by rw [List.length_cons, hl], fun vs hv => ?_, ?_⟩
    · rcases List.mem_cons.mp hv with rfl | hv
      · exact W
      · exact (hsub vs hv).1
    · rw [List.map_cons, List.flatten_cons]
      refine List.nodup_append.mpr ⟨hn, hnd, fun a ha b hb eab => ?_⟩
      obtain ⟨l, hl1, hl2⟩ := List.mem_flatten.mp hb
      obtain ⟨vs, hvs, rfl⟩ := List.mem_map.mp hl1
      exact (hsub vs hvs).2 b hl2 (eab ▸ ha)
end L2.Wy
set_option maxRecDepth 100000
namespace L2.Wy
variable {ν : Type} [DecidableEq ν]
theorem waysF_mono (ts : List (T ν)) (h : Option ν) (g : ν) (N : Nat) : ∀ (m : Nat) (U : List Int) (ks : List Int), waysF ts h g N m U = .inl ks → waysF ts h g N (m + 1) U = .inl ks
  | 0, U, ks, e => by cases e
  | m + 1, U, ks, e => by
    rw [waysF_succ] at e ⊢
    by_cases hg : g ∈ keys (reach ts (inU U) N h)
    · rw [if_pos hg] at e ⊢
      exact waysF_mono ts h g N m _ ks e
    · rw [if_neg hg] at e ⊢
      exact e
def isR : Sum (List Int) (List Int) → Bool
  | .inl _ => false
  | .inr _ => true
def cntF (ts : List (T ν)) (h : Option ν) (g : ν) (N : Nat) : Nat → Nat
  | 0 => 0
  | M + 1 => if isR (waysF ts h g N (M + 1) []) then M + 1 else cntF ts h g N M
theorem cntF_succ (ts : List (T ν)) (h : Option ν) (g : ν) (N M : Nat) : cntF ts h g N (M + 1) = if isR (waysF ts h g N (M + 1) []) then M + 1 else cntF ts h g N M := rfl
theorem isR_down {ts : List (T ν)} {h : Option ν} {g : ν} {N m : Nat} (e : isR (waysF ts h g N (m + 1) []) = true) : isR (waysF ts h g N m []) = true := by
  cases hw : waysF ts h g N m [] with
  | inr U => rfl
  | inl ks => rw [waysF_mono ts h g N m [] ks hw] at e; cases e
theorem cntF_all {ts : List (T ν)} {h : Option ν} {g : ν} {N : Nat} {M : Nat} (e : isR (waysF ts h g N M []) = true) : cntF ts h g N M = M := by
  cases M with
  | zero => rfl
  | succ M => rw [cntF_succ, if_pos e]
theorem cntF_ok (ts : List (T ν)) (h : Option ν) (g : ν) (N : Nat) : ∀ M, cntF ts h g N M ≤ M ∧ isR (waysF ts h g N (cntF ts h g N M) []) = true ∧ (cntF ts h g N M < M → isR (waysF ts h g N (cntF ts h g N M + 1) []) = false)
  | 0 => ⟨Nat.le_refl _, rfl, fun z => absurd z (Nat.lt_irrefl _)⟩
  | M + 1 => by
    rw [cntF_succ]
    cases hw : isR (waysF ts h g N (M + 1) []) with
    | true => rw [if_pos rfl]; exact ⟨Nat.le_refl _, hw, fun z => absurd z (Nat.lt_irrefl _)⟩
    | false =>
      rw [if_neg (by decide)]
      obtain ⟨a, b, c⟩ := cntF_ok ts h g N M
      refine ⟨Nat.le_succ_of_le a, b, fun _ => ?_⟩
      by_cases hM : cntF ts h g N M < M
      · exact c hM
      · have : cntF ts h g N M = M := by omega
        rw [this]
        exact hw
theorem flow_nil (ts : List (T ν)) (h g : ν) : Flow ts (inU []) h g ((0 : Nat) : Int) := by
  have e : inU [] = fun _ => false := by
    funext k
    simp [inU]
  rw [e]
  exact Flow.none ts h g
structure AtCount (ts : List (T ν)) (h g : ν) (N k : Nat) (ks : List Int) (U : List Int) (p : ν → Bool) : Prop where
  cut : waysF ts (some h) g N (k + 1) [] = .inl ks
  way : waysF ts (some h) g N k [] = .inr U
  flow : Flow ts (inU U) h g k
  ok : CutOk ts h g U ks p
  len : ks.length = k
theorem at_count {ts : List (T ν)} {h g : ν} {nm : List ν} (nd : Nums ts) (E : Ends ts nm) (hh : h ∈ nm) {N : Nat} (hN : nm.length ≤ N) {M : Nat} (hlt : cntF ts (some h) g N M < M) : ∃ ks U p, AtCount ts h g N (cntF ts (some h) g N M) ks U p := by
  obtain ⟨_, h2, h3⟩ := cntF_ok ts (some h) g N M
  have h3 := h3 hlt
  generalize cntF ts (some h) g N M = k at h2 h3
  cases hw : waysF ts (some h) g N (k + 1) [] with
  | inr U => rw [hw] at h3; cases h3
  | inl ks =>
    cases hv : waysF ts (some h) g N k [] with
    | inl ks' => rw [hv] at h2; cases h2
    | inr U =>
      have A := waysF_ok (g := g) nd E hh hN k [] ((0 : Nat) : Int) (flow_nil ts h g) List.nodup_nil
      have B := waysF_ok (g := g) nd E hh hN (k + 1) [] ((0 : Nat) : Int) (flow_nil ts h g) List.nodup_nil
      obtain ⟨FU, _⟩ := A.1 U hv
      obtain ⟨i, V, p, hi, e1, e2, C, el⟩ := B.2 ks hw
      have le := FU.le C.hh C.hg
      have ek := congrArg List.length C.ks
      unfold nums at ek
      rw [List.length_map] at ek
      have : i = k := by omega
      subst this
      rw [hv] at e1
      cases e1
      exact ⟨ks, U, p, ⟨hw, hv, by simpa using FU, C, by omega⟩⟩
theorem AtCount.once {ts : List (T ν)} {h g : ν} {N k : Nat} {ks U : List Int} {p : ν → Bool} (A : AtCount ts h g N k ks U p) (nd : Nums ts) {ws : List (T ν)} (W : Wlk (ts.filter fun t => inU U t.1) h ws g) : ((nums ws).filter fun j => decide (j ∈ ks)).length = 1 := by
  have e := W.cross A.ok.closed
  rw [A.ok.hh, A.ok.hg] at e
  have e : ((ws.filter (cutB p)).length : Int) = 1 - 0 := e
  have : ((nums ws).filter fun j => decide (j ∈ ks)).length = (ws.filter (cutB p)).length := by
    unfold nums
    rw [List.filter_map, List.length_map]
    congr 1
    refine List.filter_congr fun t ht => ?_
    have hts := (List.mem_filter.mp (W.sub t ht)).1
    show decide (t.1 ∈ ks) = cutB p t
    rw [A.ok.ks]
    cases hc : cutB p t with
    | true => exact decide_eq_true (List.mem_map_of_mem (f := (·.1)) (List.mem_filter.mpr ⟨hts, hc⟩))
    | false =>
      refine decide_eq_false fun z => ?_
      obtain ⟨u, hu, eu⟩ := List.mem_map.mp z
      obtain ⟨hu1, hu2⟩ := List.mem_filter.mp hu
      rw [nd.inj hu1 hts eu, hc] at hu2
      cases hu2
  omega
theorem cut_less {ts : List (T ν)} (p : ν → Bool) (q : T ν → Bool) : (cutOf (ts.filter q) p).length ≤ (cutOf ts p).length := by
  unfold cutOf
  exact ((List.filter_sublist).filter _).length_le
theorem cut_drop {ts : List (T ν)} (nd : Nums ts) (p : ν → Bool) {r : Int} (hr : r ∈ nums (cutOf ts p)) : (cutOf (ts.filter fun t => !decide (t.1 = r)) p).length + 1 ≤ (cutOf ts p).length := by
  unfold cutOf at hr ⊢
  rw [List.filter_filter]
  obtain ⟨t, ht, rfl⟩ := List.mem_map.mp hr
  have : (ts.filter fun u => cutB p u && !decide (u.1 = t.1)) = (ts.filter (cutB p)).filter fun u => !decide (u.1 = t.1) := by
    rw [List.filter_filter]
    refine List.filter_congr fun u _ => ?_
    rw [Bool.and_comm]
  rw [this]
  have h2 := List.length_filter_lt_length_iff_exists.mpr (⟨t, ht, by simp⟩ : ∃ x ∈ ts.filter (cutB p), ¬ (!decide (x.1 = t.1)) = true)
  omega
theorem cut_one {ts : List (T ν)} (nd : Nums ts) (p : ν → Bool) (r : Int) : (cutOf ts p).length ≤ (cutOf (ts.filter fun t => !decide (t.1 = r)) p).length + 1 := by
  unfold cutOf
  induction ts with
  | nil => exact Nat.zero_le _
  | cons t ts ih =>
    have ih := ih nd.tail
    by_cases hr : t.1 = r
    · have e : ts.filter (fun t => !decide (t.1 = r)) = ts := List.filter_eq_self.mpr fun u hu => by
        have := nd.ne hu
        simp [← hr, this]
      rw [List.filter_cons (p := fun t : T ν => !decide (t.1 = r)), if_neg (by simp [hr]), e, List.filter_cons]
      split
      · exact Nat.le_refl _
      · exact Nat.le_succ _
    · rw [List.filter_cons (p := fun t : T ν => !decide (t.1 = r)), if_pos (by simp [hr]), List.filter_cons, List.filter_cons]
      split
      · rw [List.length_cons, List.length_cons]; omega
      · exact ih
theorem Nums.filter {ts : List (T ν)} (nd : Nums ts) (q : T ν → Bool) : Nums (ts.filter q) := List.Nodup.sublist (List.Sublist.map _ (List.filter_sublist)) nd
theorem Ends.filter {ts : List (T ν)} {nm : List ν} (E : Ends ts nm) (q : T ν → Bool) : Ends (ts.filter q) nm := fun t ht => E t (List.mem_filter.mp ht).1
theorem one_fallen {ts : List (T ν)} {h g : ν} {nm : List ν} (nd : Nums ts) (E : Ends ts nm) (hh : h ∈ nm) {N : Nat} (hN : nm.length ≤ N) {M k : Nat} (hk : k < M) {ks U : List Int} {p : ν → Bool} (A : AtCount ts h g N k ks U p) (r : Int) :
    cntF (ts.filter fun t => !decide (t.1 = r)) (some h) g N M ≤ k ∧ k ≤ cntF (ts.filter fun t => !decide (t.1 = r)) (some h) g N M + 1 ∧ (r ∈ ks → cntF (ts.filter fun t => !decide (t.1 = r)) (some h) g N M + 1 = k) := by
  have nd' := nd.filter fun t => !decide (t.1 = r)
  have E' := E.filter fun t => !decide (t.1 = r)
  obtain ⟨b1, b2, b3⟩ := cntF_ok (ts.filter fun t => !decide (t.1 = r)) (some h) g N M
  have up : cntF (ts.filter fun t => !decide (t.1 = r)) (some h) g N M ≤ (cutOf (ts.filter fun t => !decide (t.1 = r)) p).length := by
    cases hw : waysF (ts.filter fun t => !decide (t.1 = r)) (some h) g N (cntF (ts.filter fun t => !decide (t.1 = r)) (some h) g N M) [] with
    | inl ks' => rw [hw] at b2; cases b2
    | inr V =>
      have F := ((waysF_ok (g := g) nd' E' hh hN _ [] ((0 : Nat) : Int) (flow_nil _ h g) List.nodup_nil).1 V hw).1
      have := F.le A.ok.hh A.ok.hg
      omega
  have ck : (cutOf ts p).length = k := by
    have := A.len
    rw [A.ok.ks] at this
    unfold nums at this
    rw [List.length_map] at this
    exact this
  have h1 := cut_less (ts := ts) p fun t => !decide (t.1 = r)
  have low : k ≤ cntF (ts.filter fun t => !decide (t.1 = r)) (some h) g N M + 1 := by
    by_cases hM : cntF (ts.filter fun t => !decide (t.1 = r)) (some h) g N M < M
    · obtain ⟨ks', U', p', A'⟩ := at_count (g := g) nd' E' hh hN hM
      have := A.flow.le A'.ok.hh A'.ok.hg
      have h2 := cut_one nd p' r
      have h3 := A'.len
      rw [A'.ok.ks] at h3
      unfold nums at h3
      rw [List.length_map] at h3
      omega
    · omega
  refine ⟨by omega, low, fun hr => ?_⟩
  rw [A.ok.ks] at hr
  have := cut_drop nd p hr
  omega
end L2.Wy
set_option maxRecDepth 100000
namespace K32
open PySem L2
open PyProof.Rows (boot_list boot_int boot_bool boot_tuple boot_str boot_dict boot_all)
def top (i : Nat) : Stmt := PySem.Challenge.pw_mixposts_k32_whole_as_many_as_the_least.main.body.getD i (.Pass ⟨0, 0, 0, 0⟩)
inductive Kd where
  | house | listener | post
deriving DecidableEq
structure Cl where
  net : Addr
  post : Addr
  house : Addr
  lstn : Addr
def Cl.of (c : Cl) : Kd → Addr
  | .house => c.house
  | .listener => c.lstn
  | .post => c.post
structure Cl.Ok (K : PySem.W.Frag) (c : Cl) : Prop where
  cn : Cls K c.net
  cp : Cls K c.post
  ch : Cls K c.house
  cl : Cls K c.lstn
  fp : NoAttr K c.net "kept_posts"
  ft : NoAttr K c.net "kept_ties"
  fn : NoAttr K c.net "next_number"
  np : NoAttr K c.post "name"
  nh : NoAttr K c.house "name"
  nl : NoAttr K c.lstn "name"
  ph : c.post ≠ c.house
  pl : c.post ≠ c.lstn
  hl : c.house ≠ c.lstn
def IsPost (c : Cl) (C : Addr) : Prop := ∃ k, C = c.of k
theorem Cl.Ok.cls {K : PySem.W.Frag} {c : Cl} (o : Cl.Ok K c) : ∀ k, Cls K (c.of k)
  | .house => o.ch
  | .listener => o.cl
  | .post => o.cp
theorem Cl.Ok.nam {K : PySem.W.Frag} {c : Cl} (o : Cl.Ok K c) : ∀ k, NoAttr K (c.of k) "name"
  | .house => o.nh
  | .listener => o.nl
  | .post => o.np
abbrev Tie := Int × Str × Str × Int
structure NS where
  posts : List (Str × Kd)
  ties : List Tie
  next : Int
def PostAt (c : Cl) (H : Hp) (v : V) (p : Str × Kd) : Prop := ∃ a dx, v = .ref a ∧ H a = some (.ins (c.of p.2) dx [("name", .str p.1)])
def TieAt (H : Hp) (v : V) (t : Tie) : Prop := ∃ a, v = .ref a ∧ H a = some (.tup [.int t.1, .str t.2.1, .str t.2.2.1, .int t.2.2.2])
structure NetAt (c : Cl) (H : Hp) (n dp dt : Addr) (S : NS) : Prop where
  ins : ∃ dx, H n = some (.ins c.net dx [("kept_posts", .ref dp), ("kept_ties", .ref dt), ("next_number", .int S.next)])
  posts : ∃ kvs, H dp = some (.dK kvs) ∧ Paired (fun (kv : Key × V) p => kv.1 = Sum.inr p.1 ∧ PostAt c H kv.2 p) kvs S.posts
  ties : ∃ kvs, H dt = some (.dK kvs) ∧ Paired (fun (kv : Key × V) (t : Tie) => kv.1 = Sum.inl t.1 ∧ TieAt H kv.2 t) kvs S.ties
  ne : dp ≠ dt
theorem PostAt.mono {c : Cl} {H H' : Hp} {v : V} {p : Str × Kd} (e : Same H H') (h : PostAt c H v p) : PostAt c H' v p := let ⟨a, dx, q1, q2⟩ := h; ⟨a, dx, q1, e _ _ q2⟩
theorem TieAt.mono {H H' : Hp} {v : V} {t : Tie} (e : Same H H') (h : TieAt H v t) : TieAt H' v t := let ⟨a, q1, q2⟩ := h; ⟨a, q1, e _ _ q2⟩
theorem NetAt.mono {c : Cl} {H H' : Hp} {n dp dt : Addr} {S : NS} (e : Same H H') (h : NetAt c H n dp dt S) : NetAt c H' n dp dt S := by
  obtain ⟨⟨dx, h1⟩, ⟨kp, h2, p2⟩, ⟨kt, h3, p3⟩, h4⟩ := h
  exact ⟨⟨dx, e _ _ h1⟩, ⟨kp, e _ _ h2, Paired.mapP p2 fun _ _ ⟨a, b⟩ => ⟨a, b.mono e⟩⟩, ⟨kt, e _ _ h3, Paired.mapP p3 fun _ _ ⟨a, b⟩ => ⟨a, b.mono e⟩⟩, h4⟩
def LET : Str := "abcdefghijklmnopqrstuvwxyz"
def letIn (x : Str) : Bool := !(Builtin.Str.occurrences LET x 0 LET.length 1).isEmpty
def isName (x : Str) : Bool := decide (1 ≤ x.length) && decide (x.length ≤ 8) && (List.range x.cps.size).all fun i => letIn (sgn x i)
structure TxtL (mg : Str → Option Value) : Prop where
  n_len : mg "len" = none
  n_isinstance : mg "isinstance" = none
  n_str : mg "str" = none
  n_all : mg "all" = none
  n_list : mg "list" = none
structure TxtG (mg : Str → Option Value) : Prop where
  let_ : ∃ t, mg "LETTERS" = some (.str LET t)
  lon : ∃ t, mg "LONGEST_NAME" = some (.int 8 t)
  mop : ∃ t, mg "MOST_POSTS" = some (.int 20 t)
  mol : ∃ t, mg "MOST_LISTENERS" = some (.int 8 t)
structure TxtK (K : PySem.W.Frag) : Prop where
  ss : PySem.W.kitOne K (.type "str") (.type "str") = some true
theorem compV_str {js : List Nat} {te : TE} {σ : St} {H : Hp} {F : Addr → Hp → Prop} {x : Str} (g : Nat → V) (hz : x.cps.size ≤ 1000)
    (hs : ∀ i H2, i < x.cps.size → Same H H2 → te (some (.str (sgn x i)) :: caps σ js) H2 fun v H5 => v = g i ∧ Same H2 H5)
    (hd : ∀ l H', H l = none → Same H H' → H' l = some (.lst ((List.range x.cps.size).map g)) → F l H') : compRd 1 js (gName 0) tYes te σ F (Its x) H := by
  intro l hl0
  refine ⟨fun i m σ' H2 => m = x.cps.size - i ∧ i ≤ x.cps.size ∧ (∃ o, σ' = o :: caps σ js) ∧ Same H H2 ∧ H2 l = some (.lst ((List.range i).map g)), ⟨x.cps.size, by simp, Nat.zero_le _, ⟨none, rfl⟩, same_upd (Same.refl _) hl0, upd_same⟩, ?_⟩
  rintro i m σ' H2 ⟨rfl, hi, ⟨o, rfl⟩, e, hl⟩
  by_cases hlt : i < x.cps.size
  · refine .inr ⟨hlt, fun v H3 y => ?_⟩
    obtain ⟨rfl, rfl⟩ := y
    refine ⟨fun _ => False, fun v H5 => v = g i ∧ Same H3 H5, fun H4 p4 => p4.elim, fun v H5 ⟨ev, e5⟩ => ?_, hs i H3 hlt e⟩
    subst ev
    refine ⟨_, e5 _ _ hl, by simp only [List.length_map, List.length_range]; exact Nat.lt_of_lt_of_le hlt (Nat.le_trans hz (by decide)), _, ?_, rfl, hlt, ⟨_, rfl⟩, same_new (e.trans e5) hl0, ?_⟩
    · omega
    · rw [upd_same, List.range_succ, List.map_append]; rfl
  · have ei : i = x.cps.size := by omega
    subst ei
    exact .inl ⟨rfl, hd l H2 hl0 e hl⟩
section
variable {P : Program} {w : World} {K : PySem.W.Frag} {mg : Str → Option Value} {base : Heap}
def sp_is_name : Sp := fun vs H Q _ => ∃ x : Str, vs = [.str x] ∧ x.length ≤ 1000 ∧ ∀ H', Same H H' → Q (.bl (isName x)) H'
abbrev s_is_name : Stmt := top 29
theorem sc_is_name : FnScope ["name"] ["name"] (defScope s_is_name) := ⟨rfl, rfl, rfl, by decide +kernel, rfl, by decide +kernel, by decide +kernel⟩
theorem ok_is_name {f : Addr} {fd : FuncData} (F : Fun K "is_name" "is_name" s_is_name f fd) (T : TxtL mg) (TG : TxtG mg) (TK : TxtK K) : FnOk P w K mg base CX0 1 f fd ["name"] sp_is_name := by
  obtain ⟨tl, hg_LETTERS⟩ := TG.let_
  obtain ⟨tn, hg_LONGEST_NAME⟩ := TG.lon
  refine F.ok sc_is_name (fun vs H Q E h => ?_) (fun cdv A outer s H vs Q E hr h => ?_)
  · obtain ⟨x, rfl, _⟩ := h
    rfl
  · obtain ⟨x, rfl, hx, q⟩ := h
    have ND := sc_is_name.nd
    refine ⟨_, (pss_cons (ps_if (pt_not (pt_val (pe_callB (isiK K) rfl T.n_isinstance boot_isinstance (pa_cons (pv 0) (pa_cons (pe_bltn (v := .ty "str") rfl T.n_str boot_str rfl) pa_nil)))))
    (pss_one (ps_ret pe_bl))
    pss_nil)
  (pss_one (ps_ret (pe_and (pe_chain op_le op_le pe_int (pe_callB call_len_str rfl T.n_len boot_len (pa_cons (pv 0) pa_nil)) (pe_glob (v := .int 8) rfl hg_LONGEST_NAME ⟨_, rfl⟩)) (pe_one (pe_callB (call_allB K rfl) rfl T.n_all boot_all (pa_cons (pe_comp rfl (compScope_of (nT := 1) (js := []) (N' := ["sign"]) rfl rfl (by kernel_rfl)) (pi_str (pv 0))
    (fun _ _ _ _ _ => (pg_name (i := 0) (show List.Nodup (["sign"] : List Str) by decide +kernel) rfl (by first | exact Or.inl rfl | exact Or.inr rfl)))
    (fun _ _ _ _ _ => pif_nil)
    (fun _ _ _ _ _ => (pe_cmpR op_in_str (pv 0) (pe_glob (v := .str LET) rfl hg_LETTERS ⟨_, rfl⟩) (by with_unfolding_all rfl)))) pa_nil))))))), ?_⟩
    have hxs : x.cps.size = x.length := rfl
    refine ⟨_, rfl, .str x, _, _, _, rfl, .str x, TK.ss, _, rfl, iteF ?_⟩
    have qb : isName x = (decide (1 ≤ x.length) && decide (x.length ≤ 8) && ((List.range x.cps.size).map fun i => letIn (sgn x i)).all id) := by
      unfold isName
      rw [List.all_map]
      rfl
    refine ⟨_, rfl, x, rfl, Nat.le_trans hx (by decide), ?_⟩
    refine ⟨_, _, rfl, rfl, _, rfl, ite2 (fun h1 => ?_) (fun h1 => ?_)⟩
    · have h1 : 1 ≤ x.length := by have := of_decide_eq_true h1; omega
      refine ⟨_, _, rfl, rfl, _, rfl, ite2 (fun h2 => ?_) (fun h2 => ?_)⟩
      · have h2 : x.length ≤ 8 := by have := of_decide_eq_true h2; omega
        refine ⟨_, rfl, x, rfl, compV_str (fun i => .bl (letIn (sgn x i))) (by omega) (fun i H2 hi e => ⟨_, rfl, _, LET, rfl, rfl, rfl, Same.refl _⟩) (fun l H' hl0 e hl => ?_)⟩
        refine ⟨l, (List.range x.cps.size).map fun i => letIn (sgn x i), rfl, SqL.of (by rw [List.map_map]; exact hl), ?_⟩
        have := q H' e
        rw [qb, decide_eq_true h1, decide_eq_true h2] at this
        exact this
      · have h2 : ¬ x.length ≤ 8 := fun z => h2 (decide_eq_true (by omega))
        have := q H (Same.refl _)
        rw [qb, decide_eq_false h2, Bool.and_false, Bool.false_and] at this
        exact this
    · have h1 : ¬ 1 ≤ x.length := fun z => h1 (decide_eq_true (by omega))
      have := q H (Same.refl _)
      rw [qb, decide_eq_false h1, Bool.false_and, Bool.false_and] at this
      exact ⟨_, rfl, iteF this⟩
def sp_const (b : V) : Sp := fun vs H Q _ => ∃ v, vs = [v] ∧ Q b H
abbrev s_Post_reads : Stmt := inClass (top 33) 3
theorem sc_Post_reads : FnScope ["self"] ["self"] (defScope s_Post_reads) := ⟨rfl, rfl, rfl, by decide +kernel, rfl, by decide +kernel, by decide +kernel⟩
theorem ok_Post_reads {f : Addr} {fd : FuncData} (F : Fun K "reads" "Post.reads" s_Post_reads f fd) : FnOk P w K mg base CX0 1 f fd ["self"] (sp_const (.bl false)) := by
  refine F.ok sc_Post_reads (fun vs H Q E h => ?_) (fun cdv A outer s H vs Q E hr h => ?_)
  · obtain ⟨v, rfl, _⟩ := h
    rfl
  · obtain ⟨v, rfl, q⟩ := h
    exact ⟨_, (pss_one (ps_ret pe_bl)), q⟩
abbrev s_Listener_reads : Stmt := inClass (top 35) 1
theorem sc_Listener_reads : FnScope ["self"] ["self"] (defScope s_Listener_reads) := ⟨rfl, rfl, rfl, by decide +kernel, rfl, by decide +kernel, by decide +kernel⟩
theorem ok_Listener_reads {f : Addr} {fd : FuncData} (F : Fun K "reads" "Listener.reads" s_Listener_reads f fd) : FnOk P w K mg base CX0 1 f fd ["self"] (sp_const (.bl true)) := by
  refine F.ok sc_Listener_reads (fun vs H Q E h => ?_) (fun cdv A outer s H vs Q E hr h => ?_)
  · obtain ⟨v, rfl, _⟩ := h
    rfl
  · obtain ⟨v, rfl, q⟩ := h
    exact ⟨_, (pss_one (ps_ret pe_bl)), q⟩
abbrev s_Post_hears : Stmt := inClass (top 33) 4
theorem sc_Post_hears : FnScope ["self"] ["self"] (defScope s_Post_hears) := ⟨rfl, rfl, rfl, by decide +kernel, rfl, by decide +kernel, by decide +kernel⟩
theorem ok_Post_hears {f : Addr} {fd : FuncData} (F : Fun K "hears" "Post.hears" s_Post_hears f fd) : FnOk P w K mg base CX0 1 f fd ["self"] (sp_const (.bl true)) := by
  refine F.ok sc_Post_hears (fun vs H Q E h => ?_) (fun cdv A outer s H vs Q E hr h => ?_)
  · obtain ⟨v, rfl, _⟩ := h
    rfl
  · obtain ⟨v, rfl, q⟩ := h
    exact ⟨_, (pss_one (ps_ret pe_bl)), q⟩
abbrev s_House_hears : Stmt := inClass (top 34) 1
theorem sc_House_hears : FnScope ["self"] ["self"] (defScope s_House_hears) := ⟨rfl, rfl, rfl, by decide +kernel, rfl, by decide +kernel, by decide +kernel⟩
theorem ok_House_hears {f : Addr} {fd : FuncData} (F : Fun K "hears" "House.hears" s_House_hears f fd) : FnOk P w K mg base CX0 1 f fd ["self"] (sp_const (.bl false)) := by
  refine F.ok sc_House_hears (fun vs H Q E h => ?_) (fun cdv A outer s H vs Q E hr h => ?_)
  · obtain ⟨v, rfl, _⟩ := h
    rfl
  · obtain ⟨v, rfl, q⟩ := h
    exact ⟨_, (pss_one (ps_ret pe_bl)), q⟩
def rdB : Kd → Bool
  | .listener => true
  | _ => false
def hrB : Kd → Bool
  | .house => false
  | _ => true
def sp_readsC (c : Cl) (C : Addr) : Sp := sp_const (.bl (decide (C = c.lstn)))
def sp_hearsC (c : Cl) (C : Addr) : Sp := sp_const (.bl (!decide (C = c.house)))
theorem reads_of {c : Cl} (O : Cl.Ok K c) : ∀ k, decide (c.of k = c.lstn) = rdB k
  | .listener => decide_eq_true rfl
  | .house => decide_eq_false O.hl
  | .post => decide_eq_false O.pl
theorem hears_of {c : Cl} (O : Cl.Ok K c) : ∀ k, (!decide (c.of k = c.house)) = hrB k
  | .house => by rw [show decide (c.of .house = c.house) = true from decide_eq_true rfl]; rfl
  | .listener => by rw [show decide (c.of .listener = c.house) = false from decide_eq_false O.hl.symm]; rfl
  | .post => by rw [show decide (c.of .post = c.house) = false from decide_eq_false O.ph]; rfl
def sp_pinit (c : Cl) : Sp := fun vs H Q _ => ∃ (x : Addr) (k : Kd) (dx : Addr) (n : Str), vs = [.ref x, .str n] ∧ H x = some (.ins (c.of k) dx []) ∧ Q .non (upd H x (.ins (c.of k) dx [("name", .str n)]))
abbrev s_Post___init__ : Stmt := inClass (top 33) 0
theorem sc_Post___init__ : FnScope ["self", "name"] ["self", "name"] (defScope s_Post___init__) := ⟨rfl, rfl, rfl, by decide +kernel, rfl, by decide +kernel, by decide +kernel⟩
theorem ok_Post_init {c : Cl} {f : Addr} {fd : FuncData} (F : Fun K "__init__" "Post.__init__" s_Post___init__ f fd) (O : Cl.Ok K c) : FnOk P w K mg base CX0 1 f fd ["self", "name"] (sp_pinit c) := by
  refine F.ok sc_Post___init__ (fun vs H Q E h => ?_) (fun cdv A outer s H vs Q E hr h => ?_)
  · obtain ⟨x, k, dx, n, rfl, _⟩ := h
    rfl
  · obtain ⟨x, k, dx, n, rfl, hx, q⟩ := h
    refine ⟨_, (pss_one (ps_fld (pv 0) (pv 1) rfl)), ?_⟩
    exact ⟨_, rfl, _, rfl, x, c.of k, dx, _, rfl, hx, O.cls k, O.nam k, by decide, q⟩
def sp_ninit (c : Cl) : Sp := fun vs H Q _ => ∃ (x dx : Addr), vs = [.ref x] ∧ H x = some (.ins c.net dx []) ∧ ∀ d1 d2 H', H d1 = none → H d2 = none → d1 ≠ d2 → (∀ a o, a ≠ x → H a = some o → H' a = some o) →
  H' x = some (.ins c.net dx [("kept_posts", .ref d1), ("kept_ties", .ref d2), ("next_number", .int 0)]) → H' d1 = some (.dK []) → H' d2 = some (.dK []) → Q .non H'
abbrev s_Net___init__ : Stmt := inClass (top 36) 0
theorem sc_Net___init__ : FnScope ["self"] ["self"] (defScope s_Net___init__) := ⟨rfl, rfl, rfl, by decide +kernel, rfl, by decide +kernel, by decide +kernel⟩
theorem ok_Net_init {c : Cl} {f : Addr} {fd : FuncData} (F : Fun K "__init__" "Net.__init__" s_Net___init__ f fd) (O : Cl.Ok K c) : FnOk P w K mg base CX0 1 f fd ["self"] (sp_ninit c) := by
  refine F.ok sc_Net___init__ (fun vs H Q E h => ?_) (fun cdv A outer s H vs Q E hr h => ?_)
  · obtain ⟨x, dx, rfl, _⟩ := h
    rfl
  · obtain ⟨x, dx, rfl, hx, q⟩ := h
    refine ⟨_, (pss_cons (ps_fld (pv 0) pe_dnewK rfl)
  (pss_cons (ps_fld (pv 0) pe_dnewK rfl)
  (pss_one (ps_fld (pv 0) pe_int rfl)))), ?_⟩
    intro d1 h1
    have n1 : x ≠ d1 := ne_of_none hx h1
    refine ⟨_, rfl, x, c.net, dx, _, rfl, by rw [upd_ne n1]; exact hx, O.cn, O.fp, by decide, ?_⟩
    intro d2 h2
    have n2 : x ≠ d2 := ne_of_none (o := .ins c.net dx [("kept_posts", .ref d1)]) upd_same h2
    have n3 : d1 ≠ d2 := ne_of_none (H := upd (upd H d1 (.dK [])) x (.ins c.net dx [("kept_posts", .ref d1)])) (o := .dK []) (by rw [upd_ne n1.symm]; exact upd_same) h2
    refine ⟨_, rfl, x, c.net, dx, _, rfl, by rw [upd_ne n2]; exact upd_same, O.cn, O.ft, (by show 1 < 1000; decide), ?_⟩
    refine ⟨_, rfl, x, c.net, dx, _, rfl, upd_same, O.cn, O.fn, (by show 2 < 1000; decide), ?_⟩
    have h2' : H d2 = none := by
      rw [upd_ne n2.symm, upd_ne n3.symm] at h2
      exact h2
    refine q d1 d2 _ h1 h2' n3 (fun a o na ha => ?_) upd_same ?_ ?_
    · rw [upd_ne na, upd_ne na, upd_ne (ne_of_none ha h2'), upd_ne na, upd_ne (ne_of_none ha h1)]
      exact ha
    · rw [upd_ne n1.symm, upd_ne n1.symm, upd_ne n3, upd_ne n1.symm]
      exact upd_same
    · rw [upd_ne n2.symm, upd_ne n2.symm]
      exact upd_same
end
end K32
set_option maxRecDepth 100000
namespace K32
open PySem L2
open PyProof.Rows (boot_list boot_int boot_bool boot_tuple boot_str boot_dict boot_all)
structure Xc where
  noName : Addr
  taken : Addr
  oneHouse : Addr
  tooMany : Addr
structure TxtX (K : PySem.W.Frag) (mg : Str → Option Value) (x : Xc) : Prop where
  c_NoName : mg "NoName" = some (.ref x.noName)
  x_NoName : PySem.W.excIn K x.noName mroVE "ValueError.__new__" = true
  c_Taken : mg "Taken" = some (.ref x.taken)
  x_Taken : PySem.W.excIn K x.taken mroVE "ValueError.__new__" = true
  c_OneHouse : mg "OneHouse" = some (.ref x.oneHouse)
  x_OneHouse : PySem.W.excIn K x.oneHouse mroVE "ValueError.__new__" = true
  c_TooMany : mg "TooMany" = some (.ref x.tooMany)
  x_TooMany : PySem.W.excIn K x.tooMany mroVE "ValueError.__new__" = true
def NS.names (S : NS) : List Str := S.posts.map (·.1)
section
variable {P : Program} {w : World} {K : PySem.W.Frag} {mg : Str → Option Value} {base : Heap}
theorem val_some {c : Cl} {H : Hp} {x : Str} : ∀ {kvs : List (Key × V)} {ps : List (Str × Kd)}, Paired (fun (kv : Key × V) p => kv.1 = Sum.inr p.1 ∧ PostAt c H kv.2 p) kvs ps → ((valV kvs (Sum.inr x)).isSome = true ↔ x ∈ ps.map (·.1))
  | _, _, .nil => by simp [valV]
  | kv :: kvs, p :: ps, .cons ⟨e, _⟩ r => by
    by_cases h : p.1 = x
    · rw [valV_pos (by rw [e, h])]
      simp [h]
    · rw [valV_neg (by rw [e]; exact fun z => h (Sum.inr.inj z)), val_some r]
      simp [Ne.symm h]
def sp_cnn (c : Cl) (X : Xc) : Sp := fun vs H Q E => ∃ (n dp dt : Addr) (S : NS) (x : Str), vs = [.ref n, .str x] ∧ NetAt c H n dp dt S ∧ x.length ≤ 1000 ∧
  (isName x = false → ∀ H', Same H H' → E (.ref X.noName) none H') ∧ (isName x = true → x ∈ S.names → ∀ H', Same H H' → E (.ref X.taken) none H') ∧ (isName x = true → ¬ x ∈ S.names → ∀ H', Same H H' → Q .non H')
abbrev s_Net_check_new_name : Stmt := inClass (top 36) 4
theorem sc_Net_check_new_name : FnScope ["self", "name"] ["self", "name"] (defScope s_Net_check_new_name) := ⟨rfl, rfl, rfl, by decide +kernel, rfl, by decide +kernel, by decide +kernel⟩
theorem ok_Net_check_new_name {c : Cl} {X : Xc} {f : Addr} {fd : FuncData} (F : Fun K "check_new_name" "Net.check_new_name" s_Net_check_new_name f fd) (O : Cl.Ok K c) (TX : TxtX K mg X) (D_is_name : Df P w K mg base 1 "is_name" ["name"] sp_is_name) : FnOk P w K mg base (CXE P w) 2 f fd ["self", "name"] (sp_cnn c X) := by
  refine F.okX sc_Net_check_new_name (fun vs H Q E h => ?_) (fun cdv A outer s H vs Q E hr h => ?_)
  · obtain ⟨n, dp, dt, S, x, rfl, _⟩ := h
    rfl
  · obtain ⟨n, dp, dt, S, x, rfl, N, hx, q1, q2, q3⟩ := h
    have ND := sc_Net_check_new_name.nd
    refine ⟨_, (pss_cons (ps_if (pt_not (pt_val (pe_callD D_is_name (hr.mono (by decide)) rfl (pa_cons (pv 1) pa_nil))))
    (pss_one (ps_raise0 rfl made_def rfl TX.c_NoName TX.x_NoName))
    pss_nil)
  (pss_one (ps_if (pt_cmp (pc_din (hu_of hr) (pv 1) (fldK K (pv 0) rfl)))
    (pss_one (ps_raise0 rfl made_def rfl TX.c_Taken TX.x_Taken))
    pss_nil))), ?_⟩
    refine ⟨_, rfl, x, rfl, hx, fun H1 e1 => ⟨_, rfl, ?_⟩⟩
    cases hn : isName x with
    | false => exact iteT (q1 hn H1 e1)
    | true =>
      refine iteF ?_
      obtain ⟨dx, h1⟩ := (N.mono e1).ins
      obtain ⟨kvs, hd, hp⟩ := (N.mono e1).posts
      refine ⟨_, rfl, _, rfl, n, c.net, dx, _, _, rfl, h1, O.cn, O.fp, rfl, dp, _, rfl, DGet.k (k := Sum.inr x) hd, _, rfl, ?_⟩
      have hv := val_some (x := x) hp
      cases hs : (valV kvs (Sum.inr x)).isSome with
      | true => exact iteT (q2 hn (hv.mp hs) H1 e1)
      | false => exact iteF (q3 hn (fun z => by rw [hv.mpr z] at hs; cases hs) H1 e1)
theorem keys_names {c : Cl} {H : Hp} : ∀ {kvs : List (Key × V)} {ps : List (Str × Kd)}, Paired (fun (kv : Key × V) p => kv.1 = Sum.inr p.1 ∧ PostAt c H kv.2 p) kvs ps → (kvs.map fun kv => kV kv.1) = (ps.map (·.1)).map V.str
  | _, _, .nil => rfl
  | _, _, .cons ⟨e, _⟩ r => by
    simp only [List.map_cons]
    rw [e, keys_names r]
    rfl
def sp_names (c : Cl) : Sp := fun vs H Q _ => ∃ (n dp dt : Addr) (S : NS), vs = [.ref n] ∧ NetAt c H n dp dt S ∧ ∀ l H', Same H H' → H l = none → H' l = some (.lst (S.names.map V.str)) → Q (.ref l) H'
abbrev s_Net_names : Stmt := inClass (top 36) 11
theorem sc_Net_names : FnScope ["self"] ["self"] (defScope s_Net_names) := ⟨rfl, rfl, rfl, by decide +kernel, rfl, by decide +kernel, by decide +kernel⟩
theorem ok_Net_names {c : Cl} {f : Addr} {fd : FuncData} (F : Fun K "names" "Net.names" s_Net_names f fd) (O : Cl.Ok K c) (T : TxtL mg) : FnOk P w K mg base CX0 1 f fd ["self"] (sp_names c) := by
  refine F.ok sc_Net_names (fun vs H Q E h => ?_) (fun cdv A outer s H vs Q E hr h => ?_)
  · obtain ⟨n, dp, dt, S, rfl, _⟩ := h
    rfl
  · obtain ⟨n, dp, dt, S, rfl, N, q⟩ := h
    refine ⟨_, (pss_one (ps_ret (pe_callTy (call_list_dK rfl) rfl T.n_list boot_list (pa_cons (fldK K (pv 0) rfl) pa_nil)))), ?_⟩
    obtain ⟨dx, h1⟩ := N.ins
    obtain ⟨kvs, hd, hp⟩ := N.posts
    refine ⟨_, rfl, n, c.net, dx, _, _, rfl, h1, O.cn, O.fp, rfl, dp, kvs, rfl, hd, fun l H' e h0 hl => q l H' e h0 ?_⟩
    rw [hl, keys_names hp]
    rfl
def NS.lis (S : NS) : List Str := (S.posts.filter fun p => rdB p.2).map (·.1)
def sp_listeners (c : Cl) : Sp := fun vs H Q _ => ∃ (n dp dt : Addr) (S : NS), vs = [.ref n] ∧ NetAt c H n dp dt S ∧ S.posts.length ≤ 1000 ∧ ∀ l H', Same H H' → H l = none → H' l = some (.lst (S.lis.map V.str)) → Q (.ref l) H'
abbrev s_Net_listeners : Stmt := inClass (top 36) 12
theorem sc_Net_listeners : FnScope ["self"] ["self"] (defScope s_Net_listeners) := ⟨rfl, rfl, rfl, by decide +kernel, rfl, by decide +kernel, by decide +kernel⟩
theorem ok_Net_listeners {c : Cl} {f : Addr} {fd : FuncData} (F : Fun K "listeners" "Net.listeners" s_Net_listeners f fd) (O : Cl.Ok K c) (D_reads : ∀ C, IsPost c C → Dm P w K mg base 1 C "reads" ["self"] (sp_readsC c C)) : FnOk P w K mg base CX0 2 f fd ["self"] (sp_listeners c) := by
  refine F.ok sc_Net_listeners (fun vs H Q E h => ?_) (fun cdv A outer s H vs Q E hr h => ?_)
  · obtain ⟨n, dp, dt, S, rfl, _⟩ := h
    rfl
  · obtain ⟨n, dp, dt, S, rfl, N, hz, q⟩ := h
    refine ⟨_, (pss_one (ps_ret (pe_compD rfl (compScope_of (nT := 1) (js := []) (N' := ["post"]) rfl rfl (by kernel_rfl)) (pi_vals (fldK K (pv 0) rfl))
    (fun _ _ _ _ _ => (pg_name (i := 0) (show List.Nodup (["post"] : List Str) by decide +kernel) rfl (by first | exact Or.inl rfl | exact Or.inr rfl)))
    (fun _ _ _ _ _ => (pif_one (pt_val (pe_meth0C (pv 0) D_reads (hr.mono (by decide))))))
    (fun _ _ _ _ _ => (fldK K (pv 0) rfl))))), ?_⟩
    obtain ⟨dx, h1⟩ := N.ins
    obtain ⟨kvs, hd, hp⟩ := N.posts
    have hl := Paired.length hp
    refine ⟨_, rfl, n, c.net, dx, _, _, rfl, h1, O.cn, O.fp, rfl, dp, kvs, rfl, hd, fun o M hM => ?_⟩
    rw [itv_eq]
    refine compG_dict (fun i => rdB (S.posts.getD i ("", .post)).2) (fun i => .str (S.posts.getD i ("", .post)).1) upd_same (by omega) (fun i kv H2 ek e2 => ?_) (fun l H' h0 e' hl' => ?_)
    · obtain ⟨p, ep, _, a, dxa, ea, ha⟩ := Paired.at hp ek
      have gd : S.posts.getD i ("", .post) = p := by rw [List.getD_eq_getElem?_getD, ep]; rfl
      have ha2 : H2 a = some (.ins (c.of p.2) dxa [("name", .str p.1)]) := e2 _ _ (by rw [upd_ne (ne_of ha hd (fun z => nomatch z))]; exact ha)
      rw [gd]
      refine ⟨_, rfl, a, c.of p.2, dxa, _, ea, ⟨_, rfl⟩, ha2, rfl, _, rfl, _, rfl, ?_⟩
      rw [reads_of O]
      refine ite2 (fun h => ?_) (fun h => ⟨by simpa using h, Same.refl _⟩)
      exact ⟨_, rfl, a, c.of p.2, dxa, _, _, ea, ha2, O.cls _, O.nam _, rfl, h, rfl, Same.refl _⟩
    · refine ⟨dp, o, kvs, hM, e' _ _ upd_same, q l _ (same_thaw hd e') ?_ ?_⟩
      · have nl : l ≠ dp := fun z => by rw [z, upd_same] at h0; cases h0
        rw [upd_ne nl] at h0
        exact h0
      · have nl : l ≠ dp := fun z => by rw [z, upd_same] at h0; cases h0
        rw [upd_ne nl, hl', hl]
        congr 2
        rw [range_filter_map S.posts (fun p => rdB p.2) (fun p => V.str p.1) _ _ fun i p ep => by
          have gd : S.posts.getD i ("", .post) = p := by rw [List.getD_eq_getElem?_getD, ep]; rfl
          rw [gd]; exact ⟨rfl, rfl⟩]
        unfold NS.lis
        rw [List.map_map]
        rfl
def NS.home (S : NS) : Option (Str × Kd) := S.posts.find? fun p => !hrB p.2
def homeV : Option (Str × Kd) → V
  | none => .non
  | some p => .str p.1
def sp_home (c : Cl) : Sp := fun vs H Q _ => ∃ (n dp dt : Addr) (S : NS), vs = [.ref n] ∧ NetAt c H n dp dt S ∧ Q (homeV S.home) H
abbrev s_Net_home : Stmt := inClass (top 36) 13
theorem sc_Net_home : FnScope ["self", "post"] ["self"] (defScope s_Net_home) := ⟨rfl, rfl, rfl, by decide +kernel, rfl, by decide +kernel, by decide +kernel⟩
theorem ok_Net_home {c : Cl} {f : Addr} {fd : FuncData} (F : Fun K "home" "Net.home" s_Net_home f fd) (O : Cl.Ok K c) (D_hears : ∀ C, IsPost c C → Dm P w K mg base 1 C "hears" ["self"] (sp_hearsC c C)) : FnOk P w K mg base CX0 2 f fd ["self"] (sp_home c) := by
  refine F.ok sc_Net_home (fun vs H Q E h => ?_) (fun cdv A outer s H vs Q E hr h => ?_)
  · obtain ⟨n, dp, dt, S, rfl, _⟩ := h
    rfl
  · obtain ⟨n, dp, dt, S, rfl, N, q⟩ := h
    have ND := sc_Net_home.nd
    refine ⟨_, (pss_cons (ps_forD PassesOwn.never rfl (pi_vals (fldK K (pv 0) rfl)) (pg_name (i := 1) ND rfl (by first | exact Or.inl rfl | exact Or.inr rfl))
    (pss_one (ps_if (pt_not (pt_val (pe_meth0C (pv 1) D_hears (hr.mono (by decide)))))
    (pss_one (ps_ret (fldK K (pv 1) rfl)))
    pss_nil)))
  (pss_one (ps_ret pe_non))), ?_⟩
    obtain ⟨dx, h1⟩ := N.ins
    obtain ⟨kvs, hd, hp⟩ := N.posts
    have hl := Paired.length hp
    refine ⟨_, rfl, n, c.net, dx, _, _, rfl, h1, O.cn, O.fp, rfl, dp, kvs, rfl, hd, fun o M hM => ?_⟩
    rw [itv_eq]
    refine for_dict (kvs := kvs) (fun i σ H2 => ∃ ov, σ = [some (.ref n), ov] ∧ H2 = upd H dp (.frz o (.dK kvs)) ∧ ∀ p ∈ S.posts.take i, hrB p.2 = true) ⟨none, rfl, rfl, by simp⟩ (fun i σ H2 _ ⟨_, _, e, _⟩ => by rw [e]; exact upd_same) (fun i kv σ H2 ek ⟨ov, es, e, hh⟩ => ?_) (fun σ H2 ⟨ov, es, e, hh⟩ => ?_)
    · subst es e
      obtain ⟨p, ep, _, a, dxa, ea, ha⟩ := Paired.at hp ek
      have ha2 : upd H dp (.frz o (.dK kvs)) a = some (.ins (c.of p.2) dxa [("name", .str p.1)]) := by rw [upd_ne (ne_of ha hd (fun z => nomatch z))]; exact ha
      refine ⟨_, rfl, a, c.of p.2, dxa, _, ea, ⟨_, rfl⟩, ha2, rfl, _, rfl, _, rfl, ?_⟩
      rw [hears_of O]
      cases hb : hrB p.2 with
      | false =>
        refine iteT ⟨_, rfl, a, c.of p.2, dxa, _, _, ea, ha2, O.cls _, O.nam _, rfl, dp, o, kvs, hM, upd_same, ?_⟩
        have : S.home = some p := by
          unfold NS.home
          rw [List.find?_eq_some_iff_getElem]
          obtain ⟨hi, e2⟩ := List.getElem?_eq_some_iff.mp ep
          refine ⟨by rw [hb]; rfl, i, hi, e2, fun j hj => ?_⟩
          rw [hh _ (List.mem_take_iff_getElem.mpr ⟨j, by omega, rfl⟩)]
          rfl
        rw [this] at q
        rw [thaw_same hd]
        exact q
      | true =>
        refine iteF ⟨_, rfl, rfl, fun p' hp' => ?_⟩
        rw [List.take_add_one, ep] at hp'
        rcases List.mem_append.mp hp' with z | z
        · exact hh p' z
        · have : p' = p := by simpa using z
          rw [this]; exact hb
    · subst es e
      refine ⟨dp, o, kvs, hM, upd_same, ?_⟩
      have : S.home = none := by
        unfold NS.home
        rw [List.find?_eq_none]
        intro p hpm
        rw [hl, List.take_length] at hh
        rw [hh p hpm]
        simp
      rw [this] at q
      rw [thaw_same hd]
      exact q
end
end K32
set_option maxRecDepth 100000
namespace K32
open PySem L2
open PyProof.Rows (boot_list boot_int boot_bool boot_tuple boot_str boot_dict boot_all)
def But (d : Addr) (H H' : Hp) : Prop := ∀ a o, a ≠ d → H a = some o → H' a = some o
theorem But.of {d : Addr} {H H' : Hp} (e : Same H H') : But d H H' := fun a o _ h => e a o h
theorem But.trans {d : Addr} {H H1 H2 : Hp} (a : But d H H1) (b : But d H1 H2) : But d H H2 := fun c o n h => b c o n (a c o n h)
def NS.put (S : NS) (x : Str) (k : Kd) : NS := { S with posts := S.posts ++ [(x, k)] }
theorem NetAt.put {c : Cl} {H H' : Hp} {n dp dt a : Addr} {S : NS} {p : Str × Kd} {kvs : List (Key × V)} (N : NetAt c H n dp dt S) (hd : H dp = some (.dK kvs)) (hp : Paired (fun (kv : Key × V) p => kv.1 = Sum.inr p.1 ∧ PostAt c H kv.2 p) kvs S.posts) (pa : PostAt c H (.ref a) p) (e : But dp H H')
    (hd' : H' dp = some (.dK (kvs ++ [(Sum.inr p.1, .ref a)]))) : NetAt c H' n dp dt (S.put p.1 p.2) := by
  obtain ⟨⟨dx, h1⟩, _, ⟨kt, h3, p3⟩, h4⟩ := N
  have keepP : ∀ {v : V} {q : Str × Kd}, PostAt c H v q → PostAt c H' v q := fun ⟨b, dxb, eb, hb⟩ => ⟨b, dxb, eb, e _ _ (ne_of hb hd (fun z => nomatch z)) hb⟩
  have keepT : ∀ {v : V} {t : Tie}, TieAt H v t → TieAt H' v t := fun ⟨b, eb, hb⟩ => ⟨b, eb, e _ _ (ne_of hb hd (fun z => nomatch z)) hb⟩
  exact ⟨⟨dx, e _ _ (ne_of h1 hd (fun z => nomatch z)) h1⟩, ⟨_, hd', Paired.snoc' (Paired.mapP hp fun _ _ ⟨x, y⟩ => ⟨x, keepP y⟩) ⟨rfl, keepP pa⟩⟩, ⟨kt, e _ _ (Ne.symm h4) h3, Paired.mapP p3 fun _ _ ⟨x, y⟩ => ⟨x, keepT y⟩⟩, h4⟩
section
variable {P : Program} {w : World} {K : PySem.W.Frag} {mg : Str → Option Value} {base : Heap}
def full (S : NS) (k : Kd) : Bool := decide (20 ≤ S.posts.length) || (rdB k && decide (8 ≤ S.lis.length))
def sp_put_in (c : Cl) (X : Xc) : Sp := fun vs H Q E => ∃ (n dp dt a : Addr) (S : NS) (p : Str × Kd), vs = [.ref n, .ref a] ∧ NetAt c H n dp dt S ∧ PostAt c H (.ref a) p ∧ ¬ p.1 ∈ S.names ∧ S.posts.length ≤ 1000 ∧
  (full S p.2 = true → ∀ H', Same H H' → E (.ref X.tooMany) none H') ∧ (full S p.2 = false → ∀ H', But dp H H' → NetAt c H' n dp dt (S.put p.1 p.2) → Q .non H')
abbrev s_Net_put_in : Stmt := inClass (top 36) 5
theorem sc_Net_put_in : FnScope ["self", "post"] ["self", "post"] (defScope s_Net_put_in) := ⟨rfl, rfl, rfl, by decide +kernel, rfl, by decide +kernel, by decide +kernel⟩
theorem ok_Net_put_in {c : Cl} {X : Xc} {f : Addr} {fd : FuncData} (F : Fun K "put_in" "Net.put_in" s_Net_put_in f fd) (O : Cl.Ok K c) (T : TxtL mg) (TG : TxtG mg) (TX : TxtX K mg X) (D_reads : ∀ C, IsPost c C → Dm P w K mg base 1 C "reads" ["self"] (sp_readsC c C))
    (D_Net_listeners : Dm P w K mg base 2 c.net "listeners" ["self"] (sp_listeners c)) : FnOk P w K mg base (CXE P w) 3 f fd ["self", "post"] (sp_put_in c X) := by
  obtain ⟨tl, hg_MOST_POSTS⟩ := TG.mop
  obtain ⟨tn, hg_MOST_LISTENERS⟩ := TG.mol
  refine F.okX sc_Net_put_in (fun vs H Q E h => ?_) (fun cdv A outer s H vs Q E hr h => ?_)
  · obtain ⟨n, dp, dt, a, S, p, rfl, _⟩ := h
    rfl
  · obtain ⟨n, dp, dt, a, S, p, rfl, N, pa, hnew, hz, q1, q2⟩ := h
    have ND := sc_Net_put_in.nd
    obtain ⟨dx, h1⟩ := id N.ins
    obtain ⟨kvs, hd, hp⟩ := id N.posts
    obtain ⟨a', dxa, ea, ha⟩ := id pa
    cases ea
    have hl := Paired.length hp
    refine ⟨_, (pss_cons (ps_if (pt_cmpR op_ge (pe_callB call_len_dK rfl T.n_len boot_len (pa_cons (fldK K (pv 0) rfl) pa_nil)) (pe_glob (v := .int 20) rfl hg_MOST_POSTS ⟨_, rfl⟩) (nomark _))
    (pss_one (ps_raise0 rfl made_def rfl TX.c_TooMany TX.x_TooMany))
    pss_nil)
  (pss_cons (ps_if (PW.pt (pw_and (pt_val (pe_meth0C (pv 1) D_reads (hr.mono (by decide)))) (pw_and1 (pt_cmpR op_ge (pe_callB (lenK K) rfl T.n_len boot_len (pa_cons (pe_meth0D (pv 0) D_Net_listeners (hr.mono (by decide))) pa_nil)) (pe_glob (v := .int 8) rfl hg_MOST_LISTENERS ⟨_, rfl⟩) (nomark _)))))
    (pss_one (ps_raise0 rfl made_def rfl TX.c_TooMany TX.x_TooMany))
    pss_nil)
  (pss_one (ps_dput (hu_of hr) (fldK K (pv 0) rfl) (fldK K (pv 1) rfl) (pv 1) rfl)))), ?_⟩
    have store : ∀ H1, Same H H1 → full S p.2 = false → ∃ a_1 H4, V.ref dp = V.ref a_1 ∧ DPut H1 a_1 (.str p.1) (.ref a) H4 ∧ Q .non H4 := fun H1 e1 hf => by
      have hv : valV kvs (Sum.inr p.1) = none := by
        cases hs : valV kvs (Sum.inr p.1) with
        | none => rfl
        | some v => exact absurd ((val_some (x := p.1) hp).mp (by rw [hs]; rfl)) hnew
      refine ⟨dp, _, rfl, DPut.k (k := Sum.inr p.1) (e1 _ _ hd) (by show kvs.length < 2 ^ 24; omega), ?_⟩
      have b1 : But dp H (upd H1 dp (.dK (putK kvs (Sum.inr p.1) (.ref a)))) := fun b o nb hb => by rw [upd_ne nb]; exact e1 _ _ hb
      exact q2 hf _ b1 (N.put hd hp pa b1 (by rw [upd_same, putK_new _ hv]))
    refine ⟨_, rfl, n, c.net, dx, _, _, rfl, h1, O.cn, O.fp, rfl, dp, kvs, rfl, hd, _, _, rfl, rfl, _, rfl, ite2 (fun g1 => ?_) (fun g1 => ?_)⟩
    · have g1 : 20 ≤ S.posts.length := by have := of_decide_eq_true g1; omega
      exact q1 (by unfold full; rw [decide_eq_true g1]; rfl) H (Same.refl _)
    · have g1 : ¬ 20 ≤ S.posts.length := fun z => g1 (decide_eq_true (by omega))
      refine ⟨_, rfl, a, c.of p.2, dxa, _, rfl, ⟨_, rfl⟩, ha, rfl, _, rfl, _, rfl, ?_⟩
      rw [reads_of O]
      cases hb : rdB p.2 with
      | false =>
        refine iteF (iteF ?_)
        refine ⟨_, rfl, _, rfl, n, c.net, dx, _, _, rfl, h1, O.cn, O.fp, rfl, _, rfl, a, c.of p.2, dxa, _, _, rfl, ha, O.cls _, O.nam _, rfl, ?_⟩
        exact store H (Same.refl _) (by unfold full; rw [decide_eq_false g1, hb]; rfl)
      | true =>
        refine iteT ⟨_, rfl, n, dx, _, rfl, h1, rfl, n, dp, dt, S, rfl, N, hz, fun l H1 e1 h0 hl1 => ?_⟩
        refine ⟨l, _, rfl, .inl (SqL.of hl1), _, _, rfl, rfl, _, rfl, ite2 (fun g2 => ?_) (fun g2 => ?_)⟩
        · have g2 : 8 ≤ S.lis.length := by have := of_decide_eq_true g2; rw [List.length_map] at this; omega
          exact q1 (by unfold full; rw [hb, decide_eq_true g2, Bool.and_self, Bool.or_true]) H1 e1
        · have g2 : ¬ 8 ≤ S.lis.length := fun z => g2 (decide_eq_true (by rw [List.length_map]; omega))
          refine ⟨_, rfl, _, rfl, n, c.net, dx, _, _, rfl, e1 _ _ h1, O.cn, O.fp, rfl, _, rfl, a, c.of p.2, dxa, _, _, rfl, e1 _ _ ha, O.cls _, O.nam _, rfl, ?_⟩
          exact store H1 e1 (by unfold full; rw [decide_eq_false g1, decide_eq_false g2, Bool.and_false]; rfl)
def due (X : Xc) (S : NS) (x : Str) (k : Kd) : Option Addr :=
  if isName x = false then some X.noName else if x ∈ S.names then some X.taken else if hrB k = false ∧ S.home.isSome = true then some X.oneHouse else if full S k = true then some X.tooMany else none
def sp_new (c : Cl) (X : Xc) (k : Kd) : Sp := fun vs H Q E => ∃ (n dp dt : Addr) (S : NS) (x : Str), vs = [.ref n, .str x] ∧ NetAt c H n dp dt S ∧ x.length ≤ 1000 ∧ S.posts.length ≤ 1000 ∧
  (∀ r, due X S x k = some r → ∀ H', Same H H' → E (.ref r) none H') ∧ (due X S x k = none → ∀ H', But dp H H' → NetAt c H' n dp dt (S.put x k) → Q .non H')
theorem made {c : Cl} {X : Xc} {H : Hp} {n dp dt : Addr} {S : NS} {x : Str} {k : Kd} {Q : VK} {E : XK} (N : NetAt c H n dp dt S) (hz : S.posts.length ≤ 1000) (hi : isName x = true) (hx : ¬ x ∈ S.names) (hh : ¬ (hrB k = false ∧ S.home.isSome = true))
    (q1 : ∀ r, due X S x k = some r → ∀ H', Same H H' → E (.ref r) none H') (q2 : due X S x k = none → ∀ H', But dp H H' → NetAt c H' n dp dt (S.put x k) → Q .non H') (y dy : Addr) (ny : H y = none) (ndy : H dy = none) (ne : dy ≠ y) :
    sp_put_in c X [.ref n, .ref y] (upd (upd (upd H dy (.own y)) y (.ins (c.of k) dy [])) y (.ins (c.of k) dy [("name", .str x)])) Q E := by
  have e1 : Same H (upd (upd (upd H dy (.own y)) y (.ins (c.of k) dy [])) y (.ins (c.of k) dy [("name", .str x)])) := same_new (same_new (same_upd (Same.refl _) ndy) ny) ny
  have du : due X S x k = if full S k = true then some X.tooMany else none := by
    unfold due
    rw [if_neg (by rw [hi]; exact fun z => nomatch z), if_neg hx, if_neg hh]
  refine ⟨n, dp, dt, y, S, (x, k), rfl, N.mono e1, ⟨y, dy, rfl, upd_same⟩, hx, hz, fun hf H' e' => q1 _ (by rw [du, if_pos hf]) H' (e1.trans e'), fun hf H' b' N' => q2 (by rw [du, if_neg (by rw [hf]; exact fun z => nomatch z)]) H' ((But.of e1).trans b') N'⟩
abbrev s_Net_post : Stmt := inClass (top 36) 2
theorem sc_Net_post : FnScope ["self", "name"] ["self", "name"] (defScope s_Net_post) := ⟨rfl, rfl, rfl, by decide +kernel, rfl, by decide +kernel, by decide +kernel⟩
theorem ok_Net_post {c : Cl} {X : Xc} {f : Addr} {fd : FuncData} (F : Fun K "post" "Net.post" s_Net_post f fd) (O : Cl.Ok K c) (D_Net_check_new_name : DmX P w K mg base 2 c.net "check_new_name" ["self", "name"] (sp_cnn c X)) (D_Net_put_in : DmX P w K mg base 3 c.net "put_in" ["self", "post"] (sp_put_in c X))
    (D_Post : Dk P w K mg base 1 "Post" c.post ["self", "name"] (sp_pinit c)) : FnOk P w K mg base (CXE P w) 4 f fd ["self", "name"] (sp_new c X .post) := by
  refine F.okX sc_Net_post (fun vs H Q E h => ?_) (fun cdv A outer s H vs Q E hr h => ?_)
  · obtain ⟨n, dp, dt, S, x, rfl, _⟩ := h
    rfl
  · obtain ⟨n, dp, dt, S, x, rfl, N, hx, hz, q1, q2⟩ := h
    obtain ⟨dx, h1⟩ := id N.ins
    refine ⟨_, (pss_cons (ps_expr (pe_methX on_def (pv 0) D_Net_check_new_name (hr.mono (by decide)) (pa_cons (pv 1) pa_nil)))
  (pss_one (ps_expr (pe_methX on_def (pv 0) D_Net_put_in (hr.mono (by decide)) (pa_cons (pe_makeD D_Post (hr.mono (by decide)) rfl (pa_cons (pv 1) pa_nil)) pa_nil))))), ?_⟩
    refine ⟨_, rfl, n, dx, _, rfl, h1, rfl, _, rfl, n, dp, dt, S, x, rfl, N, hx, fun hi H' e => q1 _ (by unfold due; rw [if_pos hi]) H' e, fun hi ht H' e => q1 _ (by unfold due; rw [if_neg (by rw [hi]; exact fun z => nomatch z), if_pos ht]) H' e, fun hi ht H1 e1 => ?_⟩
    refine ⟨_, rfl, n, dx, _, rfl, e1 _ _ h1, rfl, _, rfl, fun y dy ny ndy ne => ⟨y, .post, dy, x, rfl, upd_same, rfl, ?_⟩⟩
    exact made (N.mono e1) hz hi ht (fun z => absurd z.1 (by decide)) (fun r hr' H' e' => q1 r hr' H' (e1.trans e')) (fun hn H' b' N' => q2 hn H' ((But.of e1).trans b') N') y dy ny ndy ne
abbrev s_Net_listener : Stmt := inClass (top 36) 3
theorem sc_Net_listener : FnScope ["self", "name"] ["self", "name"] (defScope s_Net_listener) := ⟨rfl, rfl, rfl, by decide +kernel, rfl, by decide +kernel, by decide +kernel⟩
theorem ok_Net_listener {c : Cl} {X : Xc} {f : Addr} {fd : FuncData} (F : Fun K "listener" "Net.listener" s_Net_listener f fd) (O : Cl.Ok K c) (D_Net_check_new_name : DmX P w K mg base 2 c.net "check_new_name" ["self", "name"] (sp_cnn c X)) (D_Net_put_in : DmX P w K mg base 3 c.net "put_in" ["self", "post"] (sp_put_in c X))
    (D_Listener : Dk P w K mg base 1 "Listener" c.lstn ["self", "name"] (sp_pinit c)) : FnOk P w K mg base (CXE P w) 4 f fd ["self", "name"] (sp_new c X .listener) := by
  refine F.okX sc_Net_listener (fun vs H Q E h => ?_) (fun cdv A outer s H vs Q E hr h => ?_)
  · obtain ⟨n, dp, dt, S, x, rfl, _⟩ := h
    rfl
  · obtain ⟨n, dp, dt, S, x, rfl, N, hx, hz, q1, q2⟩ := h
    obtain ⟨dx, h1⟩ := id N.ins
    refine ⟨_, (pss_cons (ps_expr (pe_methX on_def (pv 0) D_Net_check_new_name (hr.mono (by decide)) (pa_cons (pv 1) pa_nil)))
  (pss_one (ps_expr (pe_methX on_def (pv 0) D_Net_put_in (hr.mono (by decide)) (pa_cons (pe_makeD D_Listener (hr.mono (by decide)) rfl (pa_cons (pv 1) pa_nil)) pa_nil))))), ?_⟩
    refine ⟨_, rfl, n, dx, _, rfl, h1, rfl, _, rfl, n, dp, dt, S, x, rfl, N, hx, fun hi H' e => q1 _ (by unfold due; rw [if_pos hi]) H' e, fun hi ht H' e => q1 _ (by unfold due; rw [if_neg (by rw [hi]; exact fun z => nomatch z), if_pos ht]) H' e, fun hi ht H1 e1 => ?_⟩
    refine ⟨_, rfl, n, dx, _, rfl, e1 _ _ h1, rfl, _, rfl, fun y dy ny ndy ne => ⟨y, .listener, dy, x, rfl, upd_same, rfl, ?_⟩⟩
    exact made (N.mono e1) hz hi ht (fun z => absurd z.1 (by decide)) (fun r hr' H' e' => q1 r hr' H' (e1.trans e')) (fun hn H' b' N' => q2 hn H' ((But.of e1).trans b') N') y dy ny ndy ne
abbrev s_Net_house : Stmt := inClass (top 36) 1
theorem sc_Net_house : FnScope ["self", "name"] ["self", "name"] (defScope s_Net_house) := ⟨rfl, rfl, rfl, by decide +kernel, rfl, by decide +kernel, by decide +kernel⟩
theorem ok_Net_house {c : Cl} {X : Xc} {f : Addr} {fd : FuncData} (F : Fun K "house" "Net.house" s_Net_house f fd) (O : Cl.Ok K c) (TX : TxtX K mg X) (D_Net_check_new_name : DmX P w K mg base 2 c.net "check_new_name" ["self", "name"] (sp_cnn c X)) (D_Net_put_in : DmX P w K mg base 3 c.net "put_in" ["self", "post"] (sp_put_in c X))
    (D_Net_home : Dm P w K mg base 2 c.net "home" ["self"] (sp_home c)) (D_House : Dk P w K mg base 1 "House" c.house ["self", "name"] (sp_pinit c)) : FnOk P w K mg base (CXE P w) 4 f fd ["self", "name"] (sp_new c X .house) := by
  refine F.okX sc_Net_house (fun vs H Q E h => ?_) (fun cdv A outer s H vs Q E hr h => ?_)
  · obtain ⟨n, dp, dt, S, x, rfl, _⟩ := h
    rfl
  · obtain ⟨n, dp, dt, S, x, rfl, N, hx, hz, q1, q2⟩ := h
    obtain ⟨dx, h1⟩ := id N.ins
    refine ⟨_, (pss_cons (ps_expr (pe_methX on_def (pv 0) D_Net_check_new_name (hr.mono (by decide)) (pa_cons (pv 1) pa_nil)))
  (pss_cons (ps_if (pt_cmpR op_notN (pe_meth0D (pv 0) D_Net_home (hr.mono (by decide))) pe_non (nomark _))
    (pss_one (ps_raise0 rfl made_def rfl TX.c_OneHouse TX.x_OneHouse))
    pss_nil)
  (pss_one (ps_expr (pe_methX on_def (pv 0) D_Net_put_in (hr.mono (by decide)) (pa_cons (pe_makeD D_House (hr.mono (by decide)) rfl (pa_cons (pv 1) pa_nil)) pa_nil)))))), ?_⟩
    refine ⟨_, rfl, n, dx, _, rfl, h1, rfl, _, rfl, n, dp, dt, S, x, rfl, N, hx, fun hi H' e => q1 _ (by unfold due; rw [if_pos hi]) H' e, fun hi ht H' e => q1 _ (by unfold due; rw [if_neg (by rw [hi]; exact fun z => nomatch z), if_pos ht]) H' e, fun hi ht H1 e1 => ?_⟩
    refine ⟨_, rfl, n, dx, _, rfl, e1 _ _ h1, rfl, n, dp, dt, S, rfl, N.mono e1, rfl, _, rfl, ?_⟩
    cases hs : S.home with
    | some p =>
      refine iteNN (fun z => nomatch z) (q1 _ ?_ H1 e1)
      unfold due
      rw [if_neg (by rw [hi]; exact fun z => nomatch z), if_neg ht, if_pos ⟨rfl, by rw [hs]; rfl⟩]
    | none =>
      refine iteNS rfl ?_
      refine ⟨_, rfl, n, dx, _, rfl, e1 _ _ h1, rfl, _, rfl, fun y dy ny ndy ne => ⟨y, .house, dy, x, rfl, upd_same, rfl, ?_⟩⟩
      exact made (N.mono e1) hz hi ht (fun z => by rw [hs] at z; cases z.2) (fun r hr' H' e' => q1 r hr' H' (e1.trans e')) (fun hn H' b' N' => q2 hn H' ((But.of e1).trans b') N') y dy ny ndy ne
end
end K32
set_option maxRecDepth 100000
namespace K32
open PySem L2
open PyProof.Rows (boot_list boot_int boot_bool boot_tuple boot_str boot_dict boot_all)
structure TxtN (mg : Str → Option Value) : Prop where
  n_isinstance : mg "isinstance" = none
  n_int : mg "int" = none
  n_bool : mg "bool" = none
  n_len : mg "len" = none
structure TxtH (mg : Str → Option Value) : Prop where
  mot : ∃ t, mg "MOST_TIES" = some (.int 40 t)
  lod : ∃ t, mg "LONGEST_DELAY" = some (.int 99 t)
structure TxtI (K : PySem.W.Frag) : Prop where
  ii : PySem.W.kitOne K (.type "int") (.type "int") = some true
  ib : PySem.W.kitOne K (.type "int") (.type "bool") = some false
section
variable {P : Program} {w : World} {K : PySem.W.Frag} {mg : Str → Option Value} {base : Heap}
def sp_is_whole : Sp := fun vs H Q _ => ∃ i : Int, vs = [.int i] ∧ Q (.bl true) H
abbrev s_is_whole : Stmt := top 30
theorem sc_is_whole : FnScope ["number"] ["number"] (defScope s_is_whole) := ⟨rfl, rfl, rfl, by decide +kernel, rfl, by decide +kernel, by decide +kernel⟩
theorem ok_is_whole {f : Addr} {fd : FuncData} (F : Fun K "is_whole" "is_whole" s_is_whole f fd) (T : TxtN mg) (TI : TxtI K) : FnOk P w K mg base CX0 1 f fd ["number"] sp_is_whole := by
  refine F.ok sc_is_whole (fun vs H Q E h => ?_) (fun cdv A outer s H vs Q E hr h => ?_)
  · obtain ⟨i, rfl, _⟩ := h
    rfl
  · obtain ⟨i, rfl, q⟩ := h
    refine ⟨_, (pss_one (ps_ret (pe_and (pe_callB (isiK K) rfl T.n_isinstance boot_isinstance (pa_cons (pv 0) (pa_cons (pe_bltn (v := .ty "int") rfl T.n_int boot_int rfl) pa_nil))) (pe_one (pe_not (pe_callB (isiK K) rfl T.n_isinstance boot_isinstance (pa_cons (pv 0) (pa_cons (pe_bltn (v := .ty "bool") rfl T.n_bool boot_bool rfl) pa_nil)))))))), ?_⟩
    exact ⟨_, rfl, .int i, _, _, _, rfl, .int i, TI.ii, _, rfl, iteT ⟨_, rfl, .int i, _, _, _, rfl, .int i, TI.ib, _, rfl, q⟩⟩
def isDelay (i : Int) : Bool := decide (1 ≤ i) && decide (i ≤ 99)
def sp_is_delay : Sp := fun vs H Q _ => ∃ i : Int, vs = [.int i] ∧ Q (.bl (isDelay i)) H
abbrev s_is_delay : Stmt := top 31
theorem sc_is_delay : FnScope ["number"] ["number"] (defScope s_is_delay) := ⟨rfl, rfl, rfl, by decide +kernel, rfl, by decide +kernel, by decide +kernel⟩
theorem ok_is_delay {f : Addr} {fd : FuncData} (F : Fun K "is_delay" "is_delay" s_is_delay f fd) (TH : TxtH mg) (D_is_whole : Df P w K mg base 1 "is_whole" ["number"] sp_is_whole) : FnOk P w K mg base CX0 2 f fd ["number"] sp_is_delay := by
  obtain ⟨tl, hg_LONGEST_DELAY⟩ := TH.lod
  refine F.ok sc_is_delay (fun vs H Q E h => ?_) (fun cdv A outer s H vs Q E hr h => ?_)
  · obtain ⟨i, rfl, _⟩ := h
    rfl
  · obtain ⟨i, rfl, q⟩ := h
    refine ⟨_, (pss_one (ps_ret (pe_and (pe_callD D_is_whole (hr.mono (by decide)) rfl (pa_cons (pv 0) pa_nil)) (pe_one (pe_chain op_le op_le pe_int (pv 0) (pe_glob (v := .int 99) rfl hg_LONGEST_DELAY ⟨_, rfl⟩)))))), ?_⟩
    refine ⟨_, rfl, i, rfl, _, rfl, iteT ⟨_, rfl, _, _, rfl, rfl, _, rfl, ite2 (fun h1 => ⟨_, _, rfl, rfl, ?_⟩) (fun h1 => ?_)⟩⟩
    · have h1 : 1 ≤ i := of_decide_eq_true h1
      unfold isDelay at q
      rw [decide_eq_true h1, Bool.true_and] at q
      exact q
    · have h1 : ¬ 1 ≤ i := fun z => h1 (decide_eq_true z)
      unfold isDelay at q
      rw [decide_eq_false h1, Bool.false_and] at q
      exact q
def TiesAt (H : Hp) (l : Addr) (ts : List Tie) : Prop := ∃ xs, H l = some (.lst xs) ∧ Paired (TieAt H) xs ts
theorem TiesAt.mono {H H' : Hp} {l : Addr} {ts : List Tie} (e : Same H H') (h : TiesAt H l ts) : TiesAt H' l ts := let ⟨xs, q1, q2⟩ := h; ⟨xs, e _ _ q1, Paired.mapP q2 fun _ _ z => z.mono e⟩
theorem paired_of {F : V → Tie → Prop} : ∀ {vs : List V} {ts : List Tie}, vs.length = ts.length → (∀ (i : Nat) v t, vs[i]? = some v → ts[i]? = some t → F v t) → Paired F vs ts
  | [], [], _, _ => .nil
  | v :: vs, t :: ts, h, k => .cons (k 0 v t rfl rfl) (paired_of (by simpa using h) fun i v' t' h1 h2 => k (i + 1) v' t' (by simpa using h1) (by simpa using h2))
  | [], _ :: _, h, _ => by cases h
  | _ :: _, [], h, _ => by cases h
def sp_ties (c : Cl) : Sp := fun vs H Q _ => ∃ (n dp dt : Addr) (S : NS), vs = [.ref n] ∧ NetAt c H n dp dt S ∧ S.ties.length ≤ 1000 ∧ ∀ l H', Same H H' → H l = none → TiesAt H' l S.ties → Q (.ref l) H'
abbrev s_Net_ties : Stmt := inClass (top 36) 14
theorem sc_Net_ties : FnScope ["self"] ["self"] (defScope s_Net_ties) := ⟨rfl, rfl, rfl, by decide +kernel, rfl, by decide +kernel, by decide +kernel⟩
theorem ok_Net_ties {c : Cl} {f : Addr} {fd : FuncData} (F : Fun K "ties" "Net.ties" s_Net_ties f fd) (O : Cl.Ok K c) : FnOk P w K mg base CX0 1 f fd ["self"] (sp_ties c) := by
  refine F.ok sc_Net_ties (fun vs H Q E h => ?_) (fun cdv A outer s H vs Q E hr h => ?_)
  · obtain ⟨n, dp, dt, S, rfl, _⟩ := h
    rfl
  · obtain ⟨n, dp, dt, S, rfl, N, hz, q⟩ := h
    refine ⟨_, (pss_one (ps_ret (pe_compD rfl (compScope_of (nT := 4) (js := []) (N' := ["number", "one", "other", "delay"]) rfl rfl (by kernel_rfl)) (pi_vals (fldK K (pv 0) rfl))
    (fun _ _ _ _ _ => (pgtK K (n := 4) rfl (pgs_cons (pg_name (i := 0) (show List.Nodup (["number", "one", "other", "delay"] : List Str) by decide +kernel) rfl (by first | exact Or.inl rfl | exact Or.inr rfl)) (pgs_cons (pg_name (i := 1) (show List.Nodup (["number", "one", "other", "delay"] : List Str) by decide +kernel) rfl (by first | exact Or.inl rfl | exact Or.inr rfl)) (pgs_cons (pg_name (i := 2) (show List.Nodup (["number", "one", "other", "delay"] : List Str) by decide +kernel) rfl (by first | exact Or.inl rfl | exact Or.inr rfl)) (pgs_cons (pg_name (i := 3) (show List.Nodup (["number", "one", "other", "delay"] : List Str) by decide +kernel) rfl (by first | exact Or.inl rfl | exact Or.inr rfl)) pgs_nil))))))
    (fun _ _ _ _ _ => pif_nil)
    (fun _ _ _ _ _ => (pe_tupS (pa_cons (pv 0) (pa_cons (pv 1) (pa_cons (pv 2) (pa_cons (pv 3) pa_nil))))))))), ?_⟩
    obtain ⟨dx, h1⟩ := N.ins
    obtain ⟨kvs, hd, hp⟩ := N.ties
    have hl := Paired.length hp
    refine ⟨_, rfl, n, c.net, dx, _, _, rfl, h1, O.cn, O.ft, rfl, dt, kvs, rfl, hd, fun o M hM => ?_⟩
    rw [itv_eq]
    have row : ∀ (i : Nat) (kv : Key × V), kvs[i]? = some kv → ∃ t p, S.ties[i]? = some t ∧ kv.2 = .ref p ∧ upd H dt (.frz o (.dK kvs)) p = some (.tup [.int t.1, .str t.2.1, .str t.2.2.1, .int t.2.2.2]) := fun i kv ek => by
      obtain ⟨t, et, _, p, ep, hp'⟩ := Paired.at hp ek
      exact ⟨t, p, et, ep, by rw [upd_ne (ne_of hp' hd (fun z => nomatch z))]; exact hp'⟩
    refine compP4_dict (fun i H v => ∃ t, S.ties[i]? = some t ∧ TieAt H v t) (fun i H H' v e ⟨t, a, b⟩ => ⟨t, a, b.mono e⟩) upd_same (by omega) (fun i kv ek => ?_) (fun i kv p x1 x2 x3 x4 H2 ek ep hp' e2 => ?_) (fun l H' vs h0 e' hl' vl hv => ?_) (fun i H v l ⟨t, _, b, eb, hb⟩ ⟨ys, hy⟩ z => ?_) (fun i H v l ys ⟨t, a, b, eb, hb⟩ nv => ?_)
    · obtain ⟨t, p, _, ep, hp'⟩ := row i kv ek
      exact ⟨p, _, _, _, _, ep, hp'⟩
    · obtain ⟨t, p', et, ep', hp''⟩ := row i kv ek
      rw [ep] at ep'
      cases ep'
      rw [hp'] at hp''
      cases hp''
      refine ⟨_, rfl, _, rfl, _, rfl, _, rfl, (by show 4 ≤ sizeLine; decide), fun a H5 e5 h05 ha => ⟨⟨t, et, a, rfl, ha⟩, e5⟩⟩
    · refine ⟨dt, o, kvs, hM, e' _ _ upd_same, q l _ (same_thaw hd e') ?_ ?_⟩
      · have nl : l ≠ dt := fun z => by rw [z, upd_same] at h0; cases h0
        rw [upd_ne nl] at h0
        exact h0
      · have nl : l ≠ dt := fun z => by rw [z, upd_same] at h0; cases h0
        refine ⟨vs, by rw [upd_ne nl]; exact hl', paired_of (by omega) fun i v t hv' ht => ?_⟩
        obtain ⟨⟨t', et, b, eb, hb⟩, _⟩ := hv i v hv'
        rw [ht] at et
        cases et
        exact ⟨b, eb, by rw [upd_ne (ne_of hb (e' _ _ upd_same) (fun z => nomatch z))]; exact hb⟩
    · rw [eb] at z
      cases z
      rw [hb] at hy
      cases hy
    · exact ⟨t, a, b, eb, by rw [upd_ne (fun z => nv (by rw [eb, z]))]; exact hb⟩
end
end K32
set_option maxRecDepth 100000
namespace K32
open PySem L2
open PyProof.Rows (boot_list boot_int boot_bool boot_tuple boot_str boot_dict boot_all)
inductive Leads (ts : List Tie) (x : Str) : Str → Prop
  | refl : Leads ts x x
  | step {t : Tie} : t ∈ ts → Leads ts x t.2.1 → Leads ts x t.2.2.1
def namesD (R : List Str) : HO := .dK (R.map fun y => ((Sum.inr y : Key), V.bl true))
theorem names_val (R : List Str) (y : Str) : (valV (R.map fun y => ((Sum.inr y : Key), V.bl true)) (Sum.inr y)).isSome = true ↔ y ∈ R := by
  induction R with
  | nil => simp [valV]
  | cons r R ih =>
    rw [List.map_cons]
    by_cases h : r = y
    · rw [valV_pos (by rw [h])]
      simp [h]
    · rw [valV_neg (fun z => h (Sum.inr.inj z)), ih]
      simp [Ne.symm h]
theorem names_none {R : List Str} {y : Str} (h : ¬ y ∈ R) : valV (R.map fun y => ((Sum.inr y : Key), V.bl true)) (Sum.inr y) = none := by
  cases hs : valV (R.map fun y => ((Sum.inr y : Key), V.bl true)) (Sum.inr y) with
  | none => rfl
  | some v => exact absurd ((names_val R y).mp (by rw [hs]; rfl)) h
def outs (ts : List Tie) (R : List Str) : Nat := (ts.filter fun t => decide (¬ t.2.2.1 ∈ R)).length
theorem outs_le (ts : List Tie) (R : List Str) (y : Str) : outs ts (R ++ [y]) ≤ outs ts R := by
  unfold outs
  induction ts with
  | nil => exact Nat.le_refl _
  | cons t ts ih =>
    simp only [List.filter_cons, List.mem_append, List.mem_singleton]
    by_cases h : t.2.2.1 ∈ R
    · simp only [h, true_or, not_true_eq_false, decide_false, Bool.false_eq_true, if_false]
      simpa using ih
    · by_cases h2 : t.2.2.1 = y
      · simp only [h, h2, or_true, not_true_eq_false, decide_false, Bool.false_eq_true, if_false, not_false_eq_true, decide_true, if_true]
        rw [← h2]
        simp only [h, not_false_eq_true, decide_true, if_true, List.length_cons]
        simp only [List.mem_append, List.mem_singleton] at ih
        rw [← h2] at ih
        omega
      · simp only [h, h2, or_self, not_false_eq_true, decide_true, if_true, List.length_cons]
        simp only [List.mem_append, List.mem_singleton] at ih
        omega
theorem outs_lt {ts : List Tie} {R : List Str} {t : Tie} (ht : t ∈ ts) (h : ¬ t.2.2.1 ∈ R) : outs ts (R ++ [t.2.2.1]) + 1 ≤ outs ts R := by
  induction ts with
  | nil => cases ht
  | cons u ts ih =>
    have keep := outs_le ts R t.2.2.1
    by_cases hu : u = t
    · subst hu
      unfold outs at keep ⊢
      simp only [List.filter_cons, List.mem_append, List.mem_singleton, or_true, not_true_eq_false, decide_false, Bool.false_eq_true, if_false, h, not_false_eq_true, decide_true, if_true, List.length_cons] at keep ⊢
      omega
    · have ht' : t ∈ ts := by
        rcases List.mem_cons.mp ht with z | z
        · exact absurd z.symm hu
        · exact z
      have ih := ih ht'
      unfold outs at ih ⊢
      simp only [List.filter_cons, List.mem_append, List.mem_singleton] at ih ⊢
      by_cases h1 : u.2.2.1 ∈ R
      · simp only [h1, true_or, not_true_eq_false, decide_false, Bool.false_eq_true, if_false]
        exact ih
      · by_cases h2 : u.2.2.1 = t.2.2.1
        · simp only [h2, h, or_true, not_true_eq_false, decide_false, Bool.false_eq_true, if_false, not_false_eq_true, decide_true, if_true, List.length_cons]
          omega
        · simp only [h1, h2, or_self, not_false_eq_true, decide_true, if_true, List.length_cons]
          omega
section
variable {P : Program} {w : World} {K : PySem.W.Frag} {mg : Str → Option Value} {base : Heap}
def sp_led_to : Sp := fun vs H Q _ => ∃ (l : Addr) (ts : List Tie) (x : Str), vs = [.ref l, .str x] ∧ TiesAt H l ts ∧ ts.length ≤ 1000 ∧ ∀ d H' R, Same H H' → H d = none → H' d = some (namesD R) → (∀ y, y ∈ R ↔ Leads ts x y) → Q (.ref d) H'
abbrev s_led_to : Stmt := top 32
theorem sc_led_to : FnScope ["ties", "start", "reached", "waiting", "name", "number", "one", "other", "delay"] ["ties", "start"] (defScope s_led_to) := ⟨rfl, rfl, rfl, by decide +kernel, rfl, by decide +kernel, by decide +kernel⟩
theorem ok_led_to {f : Addr} {fd : FuncData} (F : Fun K "led_to" "led_to" s_led_to f fd) (T : TxtN mg) : FnOk P w K mg base CX0 1 f fd ["ties", "start"] sp_led_to := by
  refine F.ok sc_led_to (fun vs H Q E h => ?_) (fun cdv A outer s H vs Q E hr h => ?_)
  · obtain ⟨l, ts, x, rfl, _⟩ := h
    rfl
  · obtain ⟨l, ts, x, rfl, ⟨xs, hl, hp⟩, hz, q⟩ := h
    have ND := sc_led_to.nd
    have hxl := Paired.length hp
    refine ⟨_, (pss_cons (ps_set (i := 2) ND rfl (by first | exact Or.inl rfl | exact Or.inr rfl) (pe_disp (pps_cons (pv 1) pe_bl pps_nil) rfl rfl (fun z => nomatch z) (by decide)))
  (pss_cons (ps_set (i := 3) ND rfl (by first | exact Or.inl rfl | exact Or.inr rfl) (pe_lst (pa_cons (pv 1) pa_nil)))
  (pss_cons (ps_while PassesOwn.never (pt_cmpR op_gt (pe_callB (lenK K) rfl T.n_len boot_len (pa_cons (pv 3) pa_nil)) pe_int (nomark _))
    (pss_cons (ps_set (i := 4) ND rfl (by first | exact Or.inl rfl | exact Or.inr rfl) (bm0K K PySem.F.plainAttrs_list PySem.F.slot_list_pop PySem.F.type_list_pop mt_pop (pv 3)))
  (pss_one (ps_for PassesOwn.never rfl (pilK K (pv 0)) (pgtK K (n := 4) rfl (pgs_cons (pg_name (i := 5) ND rfl (by first | exact Or.inl rfl | exact Or.inr rfl)) (pgs_cons (pg_name (i := 6) ND rfl (by first | exact Or.inl rfl | exact Or.inr rfl)) (pgs_cons (pg_name (i := 7) ND rfl (by first | exact Or.inl rfl | exact Or.inr rfl)) (pgs_cons (pg_name (i := 8) ND rfl (by first | exact Or.inl rfl | exact Or.inr rfl)) pgs_nil)))))
    (pss_one (ps_ifJ (PW.pt (pw_and (pt_cmpR op_eq (pv 6) (pv 4) (nomark _)) (pw_and1 (pt_cmp (pc_dnotin (hu_of hr) (pv 7) (pv 2))))))
    (pss_cons (ps_dput (hu_of hr) (pv 2) (pv 7) pe_bl rfl)
  (pss_one (ps_expr (bmK K PySem.F.plainAttrs_list PySem.F.slot_list_append PySem.F.type_list_append mt_append (pv 3) (pa_cons (pv 7) pa_nil)))))
    pss_nil))))))
  (pss_one (ps_ret (pv 2)))))), ?_⟩
    intro d hd
    refine ⟨_, rfl, upd_same, [(Sum.inr x, .bl true)], rfl, (by show 1 ≤ 15; decide), ?_⟩
    have e0 : upd (upd H d (.dK [])) d (.dK (mergeK [] [(Sum.inr x, .bl true)])) = upd H d (namesD [x]) := by rw [upd_upd]; rfl
    rw [e0]
    refine ⟨_, rfl, (by show 1 ≤ sizeLine; decide), fun wl hwl => ?_⟩
    have nwd : wl ≠ d := fun z => by rw [z, upd_same] at hwl; cases hwl
    have hwl0 : H wl = none := by rw [upd_ne nwd] at hwl; exact hwl
    have s0 : Same H (upd (upd H d (namesD [x])) wl (.lst [.str x])) := same_new (same_upd (Same.refl _) hd) hwl0
    refine ⟨fun m σ H2 => ∃ (R Wt : List Str) (o4 o5 o6 o7 o8 : Option V), σ = [some (.ref l), some (.str x), some (.ref d), some (.ref wl), o4, o5, o6, o7, o8] ∧ Same H H2 ∧ H2 d = some (namesD R) ∧ H2 wl = some (.lst (Wt.map V.str)) ∧
      x ∈ R ∧ (∀ y ∈ R, Leads ts x y) ∧ (∀ y ∈ Wt, y ∈ R) ∧ (∀ t ∈ ts, t.2.1 ∈ R → ¬ t.2.1 ∈ Wt → t.2.2.1 ∈ R) ∧ R.length + outs ts R ≤ 1 + ts.length ∧ Wt.length ≤ R.length ∧ m = 2 * outs ts R + Wt.length,
      ⟨_, [x], [x], none, none, none, none, none, rfl, s0, by rw [upd_ne nwd.symm]; exact upd_same, upd_same, by simp, fun y hy => by rw [List.mem_singleton.mp hy]; exact .refl, fun y hy => hy, fun t _ h1 h2 => absurd h1 h2, ?_, Nat.le_refl _, rfl⟩, ?_⟩
    · have : outs ts [x] ≤ ts.length := List.length_filter_le _ _
      show 1 + outs ts [x] ≤ 1 + ts.length
      omega
    rintro m σ H2 ⟨R, Wt, o4, o5, o6, o7, o8, rfl, e2, hd2, hw2, xR, ld, wR, cls, bnd, wle, rfl⟩
    refine ⟨_, rfl, wl, _, rfl, .inl (SqL.of hw2), _, _, rfl, rfl, _, rfl, ite2 (fun hc => ?_) (fun hc => ?_)⟩
    · have hc : 0 < Wt.length := by have := of_decide_eq_true hc; rw [List.length_map] at this; omega
      obtain ⟨W', nm, rfl⟩ : ∃ W' nm, Wt = W' ++ [nm] := ⟨Wt.dropLast, Wt.getLast (List.ne_nil_of_length_pos hc), (List.dropLast_concat_getLast _).symm⟩
      have nmR : nm ∈ R := wR nm (by simp)
      refine ⟨fun σ' H' => ∃ m', m' < 2 * outs ts R + (W' ++ [nm]).length ∧ ∃ (R Wt : List Str) (o4 o5 o6 o7 o8 : Option V), σ' = [some (.ref l), some (.str x), some (.ref d), some (.ref wl), o4, o5, o6, o7, o8] ∧ Same H H' ∧ H' d = some (namesD R) ∧ H' wl = some (.lst (Wt.map V.str)) ∧
        x ∈ R ∧ (∀ y ∈ R, Leads ts x y) ∧ (∀ y ∈ Wt, y ∈ R) ∧ (∀ t ∈ ts, t.2.1 ∈ R → ¬ t.2.1 ∈ Wt → t.2.2.1 ∈ R) ∧ R.length + outs ts R ≤ 1 + ts.length ∧ Wt.length ≤ R.length ∧ m' = 2 * outs ts R + Wt.length, fun σ' H' h => h, ?_⟩
      refine ⟨_, rfl, .inl ⟨rfl, _, SqL.of hw2⟩, wl, _, .str nm, rfl, rfl, hw2, ?_, ?_⟩
      · rw [List.map_append, List.length_append]
        simp
      have hdrop : ((W' ++ [nm]).map V.str).dropLast = W'.map V.str := by rw [List.map_append]; simp
      rw [hdrop]
      have e3 : Same H (upd H2 wl (.lst (W'.map V.str))) := same_new e2 hwl0
      refine ⟨_, rfl, l, rfl, ⟨_, SqL.of (e3 _ _ hl)⟩, for_list (K := K) (xs := xs) (fun j σ H3 => ∃ (R' W1 : List Str) (o5 o6 o7 o8 : Option V), σ = [some (.ref l), some (.str x), some (.ref d), some (.ref wl), some (.str nm), o5, o6, o7, o8] ∧ Same H H3 ∧ H3 d = some (namesD R') ∧ H3 wl = some (.lst (W1.map V.str)) ∧
        x ∈ R' ∧ nm ∈ R' ∧ (∀ y ∈ R', Leads ts x y) ∧ (∀ y ∈ W1, y ∈ R') ∧ (∀ t ∈ ts, t.2.1 ∈ R' → ¬ t.2.1 ∈ W1 → t.2.1 ≠ nm → t.2.2.1 ∈ R') ∧ (∀ t ∈ ts.take j, t.2.1 = nm → t.2.2.1 ∈ R') ∧ R'.length + outs ts R' ≤ 1 + ts.length ∧ W1.length ≤ R'.length ∧ 2 * outs ts R' + W1.length < 2 * outs ts R + (W' ++ [nm]).length)
        ⟨R, W', _, _, _, _, rfl, e3, by rw [upd_ne nwd.symm]; exact hd2, upd_same, xR, nmR, ld, fun y hy => wR y (by simp [hy]), fun t ht h1 h2 h3 => cls t ht h1 (fun z => by rcases List.mem_append.mp z with z | z; exact h2 z; exact h3 (by simpa using z)), fun t ht => by simp at ht, bnd, ?_, ?_⟩ (fun j σ H3 _ h => ?_) (fun j v σ H3 ex h => ?_) (fun σ H3 h => ?_)⟩
      · rw [List.length_append] at wle
        simp at wle
        omega
      · rw [List.length_append]; simp
      · obtain ⟨_, _, _, _, _, _, _, e3', _⟩ := h
        exact SqL.of (e3' _ _ hl)
      · obtain ⟨R', W1, o5, o6, o7, o8, rfl, e4, hd4, hw4, xR4, nm4, ld4, wR4, cls4, done4, bnd4, wle4, ms4⟩ := h
        obtain ⟨t, et, p, rfl, hp'⟩ := Paired.at hp ex
        have tm : t ∈ ts := List.mem_of_getElem? et
        have tk : ts.take (j + 1) = ts.take j ++ [t] := by rw [List.take_add_one, et]; rfl
        refine ⟨p, _, rfl, SqT.of (e4 _ _ hp'), rfl, _, _, rfl, _, _, rfl, _, _, rfl, _, [], rfl, rfl, ?_⟩
        have stay : ∀ H5, H5 = H3 → (t.2.1 = nm → t.2.2.1 ∈ R') → ∃ (R' W1 : List Str) (o5 o6 o7 o8 : Option V), ([some (.ref l), some (.str x), some (.ref d), some (.ref wl), some (.str nm), some (.int t.1), some (.str t.2.1), some (.str t.2.2.1), some (.int t.2.2.2)] : St) = [some (.ref l), some (.str x), some (.ref d), some (.ref wl), some (.str nm), o5, o6, o7, o8] ∧ Same H H5 ∧ H5 d = some (namesD R') ∧ H5 wl = some (.lst (W1.map V.str)) ∧
            x ∈ R' ∧ nm ∈ R' ∧ (∀ y ∈ R', Leads ts x y) ∧ (∀ y ∈ W1, y ∈ R') ∧ (∀ t ∈ ts, t.2.1 ∈ R' → ¬ t.2.1 ∈ W1 → t.2.1 ≠ nm → t.2.2.1 ∈ R') ∧ (∀ t ∈ ts.take (j + 1), t.2.1 = nm → t.2.2.1 ∈ R') ∧ R'.length + outs ts R' ≤ 1 + ts.length ∧ W1.length ≤ R'.length ∧ 2 * outs ts R' + W1.length < 2 * outs ts R + (W' ++ [nm]).length := fun H5 eH ht => by
          subst eH
          refine ⟨R', W1, _, _, _, _, rfl, e4, hd4, hw4, xR4, nm4, ld4, wR4, cls4, fun u hu hun => ?_, bnd4, wle4, ms4⟩
          rw [tk] at hu
          rcases List.mem_append.mp hu with z | z
          · exact done4 u z hun
          · rw [List.mem_singleton.mp z] at hun ⊢
            exact ht hun
        refine ⟨_, fun σ' H' h => h, ?_⟩
        refine ⟨_, rfl, _, rfl, rfl, _, rfl, ite2 (fun h1 => ?_) (fun h1 => iteF (stay H3 rfl fun z => absurd (decide_eq_true (by rw [z])) h1))⟩
        have h1 : t.2.1 = nm := by have := of_decide_eq_true h1; injection this
        refine ⟨_, rfl, _, rfl, d, _, rfl, DGet.k (k := Sum.inr t.2.2.1) hd4, _, rfl, ?_⟩
        cases hs : (valV (R'.map fun y => ((Sum.inr y : Key), V.bl true)) (Sum.inr t.2.2.1)).isSome with
        | true => exact iteF (stay H3 rfl fun _ => (names_val R' _).mp hs)
        | false =>
          have nin : ¬ t.2.2.1 ∈ R' := fun z => by rw [(names_val R' _).mpr z] at hs; cases hs
          refine iteT ?_
          refine ⟨_, rfl, _, rfl, d, _, rfl, DPut.k (k := Sum.inr t.2.2.1) hd4 (by rw [List.length_map]; show R'.length < 2 ^ 24; omega), ?_⟩
          rw [putK_new _ (names_none nin)]
          have hw5 : upd H3 d (.dK ((R'.map fun y => ((Sum.inr y : Key), V.bl true)) ++ [(Sum.inr t.2.2.1, .bl true)])) wl = some (.lst (W1.map V.str)) := by rw [upd_ne nwd]; exact hw4
          refine ⟨_, rfl, .inl ⟨rfl, _, SqL.of hw5⟩, _, rfl, wl, _, _, rfl, rfl, hw5, by rw [List.length_map]; show W1.length < 2 ^ 24; omega, ?_⟩
          have ol := outs_lt tm nin
          refine ⟨R' ++ [t.2.2.1], W1 ++ [t.2.2.1], _, _, _, _, rfl, same_new (same_new e4 hd) hwl0, ?_, ?_, by simp [xR4], by simp [nm4], fun y hy => ?_, fun y hy => ?_, fun u hu hu1 hu2 hu3 => ?_, fun u hu hun => ?_, ?_, ?_, ?_⟩
          · rw [upd_ne nwd.symm, upd_same]
            unfold namesD
            rw [List.map_append]
            rfl
          · rw [upd_same, List.map_append]
            rfl
          · rcases List.mem_append.mp hy with z | z
            · exact ld4 y z
            · rw [List.mem_singleton.mp z]
              exact .step tm (h1 ▸ ld4 nm nm4)
          · rcases List.mem_append.mp hy with z | z
            · exact List.mem_append_left _ (wR4 y z)
            · exact List.mem_append_right _ z
          · have hu1' : u.2.1 ∈ R' := by
              rcases List.mem_append.mp hu1 with z | z
              · exact z
              · exact absurd (List.mem_append_right _ z) hu2
            exact List.mem_append_left _ (cls4 u hu hu1' (fun z => hu2 (List.mem_append_left _ z)) hu3)
          · rw [tk] at hu
            rcases List.mem_append.mp hu with z | z
            · exact List.mem_append_left _ (done4 u z hun)
            · rw [List.mem_singleton.mp z]
              simp
          · rw [List.length_append]
            show R'.length + 1 + _ ≤ _
            omega
          · rw [List.length_append, List.length_append]
            show W1.length + 1 ≤ R'.length + 1
            omega
          · have : (W1 ++ [t.2.2.1]).length = W1.length + 1 := by simp
            rw [this]
            omega
      · obtain ⟨R', W1, o5, o6, o7, o8, rfl, e4, hd4, hw4, xR4, nm4, ld4, wR4, cls4, done4, bnd4, wle4, ms4⟩ := h
        rw [hxl, List.take_length] at done4
        refine ⟨_, ms4, R', W1, _, _, _, _, _, rfl, e4, hd4, hw4, xR4, ld4, wR4, fun t ht h1 h2 => ?_, bnd4, wle4, rfl⟩
        by_cases h3 : t.2.1 = nm
        · exact done4 t ht h3
        · exact cls4 t ht h1 h2 h3
    · have hc : Wt = [] := by
        cases Wt with
        | nil => rfl
        | cons y Wt => exact absurd (decide_eq_true (by rw [List.length_map, List.length_cons]; omega)) hc
      subst hc
      refine ⟨_, rfl, q d H2 R e2 hd hd2 fun y => ⟨ld y, fun h => ?_⟩⟩
      induction h with
      | refl => exact xR
      | step ht _ ih => exact cls _ ht ih (by simp)
end
end K32
set_option maxRecDepth 100000
namespace K32
open PySem L2
open PyProof.Rows (boot_list boot_int boot_bool boot_tuple boot_str boot_dict boot_all)
structure Xt where
  intoHouse : Addr
  ringMade : Addr
  noNumber : Addr
  tooMany : Addr
structure TxtY (K : PySem.W.Frag) (mg : Str → Option Value) (x : Xt) : Prop where
  c_IntoHouse : mg "IntoHouse" = some (.ref x.intoHouse)
  x_IntoHouse : PySem.W.excIn K x.intoHouse mroVE "ValueError.__new__" = true
  c_RingMade : mg "RingMade" = some (.ref x.ringMade)
  x_RingMade : PySem.W.excIn K x.ringMade mroVE "ValueError.__new__" = true
  c_NoNumber : mg "NoNumber" = some (.ref x.noNumber)
  x_NoNumber : PySem.W.excIn K x.noNumber mroVE "ValueError.__new__" = true
  c_TooMany : mg "TooMany" = some (.ref x.tooMany)
  x_TooMany : PySem.W.excIn K x.tooMany mroVE "ValueError.__new__" = true
section
variable {P : Program} {w : World} {K : PySem.W.Frag} {mg : Str → Option Value} {base : Heap}
def sp_there (c : Cl) : Sp := fun vs H Q _ => ∃ (n dp dt : Addr) (S : NS) (x : Str), vs = [.ref n, .str x] ∧ NetAt c H n dp dt S ∧ x ∈ S.names ∧ Q .non H
abbrev s_Net_check_there : Stmt := inClass (top 36) 8
theorem sc_Net_check_there : FnScope ["self", "name"] ["self", "name"] (defScope s_Net_check_there) := ⟨rfl, rfl, rfl, by decide +kernel, rfl, by decide +kernel, by decide +kernel⟩
theorem ok_Net_check_there {c : Cl} {f : Addr} {fd : FuncData} (F : Fun K "check_there" "Net.check_there" s_Net_check_there f fd) (O : Cl.Ok K c) : FnOk P w K mg base CX0 1 f fd ["self", "name"] (sp_there c) := by
  refine F.ok sc_Net_check_there (fun vs H Q E h => ?_) (fun cdv A outer s H vs Q E hr h => ?_)
  · obtain ⟨n, dp, dt, S, x, rfl, _⟩ := h
    rfl
  · obtain ⟨n, dp, dt, S, x, rfl, N, hx, q⟩ := h
    obtain ⟨dx, h1⟩ := N.ins
    obtain ⟨kvs, hd, hp⟩ := N.posts
    refine ⟨_, (pss_one (ps_if (pt_cmp (pc_dnotin (hu_of hr) (pv 1) (fldK K (pv 0) rfl)))
    (pss_one ps_never)
    pss_nil)), ?_⟩
    refine ⟨_, rfl, _, rfl, n, c.net, dx, _, _, rfl, h1, O.cn, O.fp, rfl, dp, _, rfl, DGet.k (k := Sum.inr x) hd, _, rfl, ?_⟩
    rw [(val_some (x := x) hp).mpr hx]
    exact iteF q
theorem val_post {c : Cl} {H : Hp} {x : Str} : ∀ {kvs : List (Key × V)} {ps : List (Str × Kd)}, Paired (fun (kv : Key × V) p => kv.1 = Sum.inr p.1 ∧ PostAt c H kv.2 p) kvs ps → x ∈ ps.map (·.1) → ∃ v p, valV kvs (Sum.inr x) = some v ∧ p ∈ ps ∧ p.1 = x ∧ PostAt c H v p ∧ ps.find? (fun p => decide (p.1 = x)) = some p
  | _, _, .nil, h => by simp at h
  | kv :: kvs, p :: ps, .cons ⟨e, pa⟩ r, h => by
    by_cases hx : p.1 = x
    · exact ⟨kv.2, p, valV_pos (by rw [e, hx]), by simp, hx, pa, by rw [List.find?_cons, decide_eq_true hx]⟩
    · have h' : x ∈ ps.map (·.1) := by
        rcases List.mem_map.mp h with ⟨q, hq, e2⟩
        rcases List.mem_cons.mp hq with z | z
        · rw [z] at e2; exact absurd e2 hx
        · exact List.mem_map.mpr ⟨q, z, e2⟩
      obtain ⟨v, q, a1, a2, a3, a4, a5⟩ := val_post r h'
      exact ⟨v, q, by rw [valV_neg (by rw [e]; exact fun z => hx (Sum.inr.inj z))]; exact a1, by simp [a2], a3, a4, by rw [List.find?_cons, decide_eq_false hx]; exact a5⟩
def NS.kind (S : NS) (x : Str) : Kd := ((S.posts.find? fun p => decide (p.1 = x)).map (·.2)).getD .post
def sp_ends (c : Cl) (X : Xt) : Sp := fun vs H Q E => ∃ (n dp dt : Addr) (S : NS) (x y : Str), vs = [.ref n, .str x, .str y] ∧ NetAt c H n dp dt S ∧ x ∈ S.names ∧ y ∈ S.names ∧ S.ties.length ≤ 1000 ∧
  (hrB (S.kind y) = false → ∀ H', Same H H' → E (.ref X.intoHouse) none H') ∧ (hrB (S.kind y) = true → Leads S.ties y x → ∀ H', Same H H' → E (.ref X.ringMade) none H') ∧ (hrB (S.kind y) = true → ¬ Leads S.ties y x → ∀ H', Same H H' → Q .non H')
abbrev s_Net_check_ends : Stmt := inClass (top 36) 7
theorem sc_Net_check_ends : FnScope ["self", "one", "other"] ["self", "one", "other"] (defScope s_Net_check_ends) := ⟨rfl, rfl, rfl, by decide +kernel, rfl, by decide +kernel, by decide +kernel⟩
theorem ok_Net_check_ends {c : Cl} {X : Xt} {f : Addr} {fd : FuncData} (F : Fun K "check_ends" "Net.check_ends" s_Net_check_ends f fd) (O : Cl.Ok K c) (TX : TxtY K mg X) (D_hears : ∀ C, IsPost c C → Dm P w K mg base 1 C "hears" ["self"] (sp_hearsC c C))
    (D_Net_check_there : Dm P w K mg base 1 c.net "check_there" ["self", "name"] (sp_there c)) (D_Net_ties : Dm P w K mg base 1 c.net "ties" ["self"] (sp_ties c)) (D_led_to : Df P w K mg base 1 "led_to" ["ties", "start"] sp_led_to) : FnOk P w K mg base (CXE P w) 2 f fd ["self", "one", "other"] (sp_ends c X) := by
  refine F.okX sc_Net_check_ends (fun vs H Q E h => ?_) (fun cdv A outer s H vs Q E hr h => ?_)
  · obtain ⟨n, dp, dt, S, x, y, rfl, _⟩ := h
    rfl
  · obtain ⟨n, dp, dt, S, x, y, rfl, N, hx, hy, hz, q1, q2, q3⟩ := h
    obtain ⟨dx, h1⟩ := id N.ins
    obtain ⟨kvs, hd, hp⟩ := id N.posts
    refine ⟨_, (pss_cons (ps_expr (pe_methD (pv 0) D_Net_check_there (hr.mono (by decide)) (pa_cons (pv 1) pa_nil)))
  (pss_cons (ps_expr (pe_methD (pv 0) D_Net_check_there (hr.mono (by decide)) (pa_cons (pv 2) pa_nil)))
  (pss_cons (ps_if (pt_not (pt_val (pe_meth0C (pe_dget (hu_of hr) (fldK K (pv 0) rfl) (pv 2) (fun _ _ => rfl)) D_hears (hr.mono (by decide)))))
    (pss_one (ps_raise0 rfl made_def rfl TX.c_IntoHouse TX.x_IntoHouse))
    pss_nil)
  (pss_one (ps_if (pt_cmp (pc_din (hu_of hr) (pv 1) (pe_callD D_led_to (hr.mono (by decide)) rfl (pa_cons (pe_meth0D (pv 0) D_Net_ties (hr.mono (by decide))) (pa_cons (pv 2) pa_nil)))))
    (pss_one (ps_raise0 rfl made_def rfl TX.c_RingMade TX.x_RingMade))
    pss_nil))))), ?_⟩
    refine ⟨_, rfl, n, dx, _, rfl, h1, rfl, _, rfl, n, dp, dt, S, x, rfl, N, hx, ?_⟩
    refine ⟨_, rfl, n, dx, _, rfl, h1, rfl, _, rfl, n, dp, dt, S, y, rfl, N, hy, ?_⟩
    obtain ⟨v, p, hv, _, _, ⟨a, dxa, rfl, ha⟩, hf⟩ := val_post hp hy
    have hk : S.kind y = p.2 := by unfold NS.kind; rw [hf]; rfl
    refine ⟨_, rfl, n, c.net, dx, _, _, rfl, h1, O.cn, O.fp, rfl, _, rfl, dp, _, rfl, hv ▸ DGet.k (k := Sum.inr y) hd, a, c.of p.2, dxa, _, rfl, ⟨_, rfl⟩, ha, rfl, _, rfl, _, rfl, ?_⟩
    rw [hears_of O, ← hk]
    cases hb : hrB (S.kind y) with
    | false => exact iteT (q1 hb H (Same.refl _))
    | true =>
      refine iteF ?_
      refine ⟨_, rfl, _, rfl, n, dx, _, rfl, h1, rfl, n, dp, dt, S, rfl, N, hz, fun l H1 e1 h01 hl1 => ?_⟩
      refine ⟨_, rfl, l, S.ties, y, rfl, hl1, hz, fun d H2 R e2 h02 hd2 hR => ?_⟩
      refine ⟨d, _, rfl, DGet.k (k := Sum.inr x) hd2, _, rfl, ?_⟩
      cases hs : (valV (R.map fun y => ((Sum.inr y : Key), V.bl true)) (Sum.inr x)).isSome with
      | true => exact iteT (q2 hb ((hR x).mp ((names_val R x).mp hs)) H2 (e1.trans e2))
      | false => exact iteF (q3 hb (fun z => by rw [(names_val R x).mpr ((hR x).mpr z)] at hs; cases hs) H2 (e1.trans e2))
end
end K32
set_option maxRecDepth 100000
namespace K32
open PySem L2
open PyProof.Rows (boot_list boot_int boot_bool boot_tuple boot_str boot_dict boot_all)
def NS.tie (S : NS) (x y : Str) (d : Int) : NS := { S with ties := S.ties ++ [(S.next, x, y, d)], next := S.next + 1 }
def NS.cut (S : NS) (k : Int) : NS := { S with ties := S.ties.filter fun t => decide (t.1 ≠ k) }
def But2 (n d : Addr) (H H' : Hp) : Prop := ∀ a o, a ≠ n → a ≠ d → H a = some o → H' a = some o
theorem val_tie {H : Hp} {k : Int} : ∀ {kvs : List (Key × V)} {ts : List Tie}, Paired (fun (kv : Key × V) (t : Tie) => kv.1 = Sum.inl t.1 ∧ TieAt H kv.2 t) kvs ts → ((valV kvs (Sum.inl k)).isSome = true ↔ k ∈ ts.map (·.1))
  | _, _, .nil => by simp [valV]
  | kv :: kvs, t :: ts, .cons ⟨e, _⟩ r => by
    by_cases h : t.1 = k
    · rw [valV_pos (by rw [e, h])]
      simp [h]
    · rw [valV_neg (by rw [e]; exact fun z => h (Sum.inl.inj z)), val_tie r]
      simp [Ne.symm h]
section
variable {P : Program} {w : World} {K : PySem.W.Frag} {mg : Str → Option Value} {base : Heap}
def sp_tie (c : Cl) (X : Xt) : Sp := fun vs H Q E => ∃ (n dp dt : Addr) (S : NS) (x y : Str) (d : Int), vs = [.ref n, .str x, .str y, .int d] ∧ NetAt c H n dp dt S ∧ x ∈ S.names ∧ y ∈ S.names ∧ S.ties.length ≤ 1000 ∧ (∀ t ∈ S.ties, t.1 < S.next) ∧
  (hrB (S.kind y) = false → ∀ H', Same H H' → E (.ref X.intoHouse) none H') ∧ (hrB (S.kind y) = true → Leads S.ties y x → ∀ H', Same H H' → E (.ref X.ringMade) none H') ∧
  (hrB (S.kind y) = true → ¬ Leads S.ties y x → isDelay d = false → ∀ H', Same H H' → E (.ref X.noNumber) none H') ∧ (hrB (S.kind y) = true → ¬ Leads S.ties y x → isDelay d = true → 40 ≤ S.ties.length → ∀ H', Same H H' → E (.ref X.tooMany) none H') ∧
  (hrB (S.kind y) = true → ¬ Leads S.ties y x → isDelay d = true → S.ties.length < 40 → ∀ H', But2 n dt H H' → NetAt c H' n dp dt (S.tie x y d) → Q (.int S.next) H')
abbrev s_Net_tie : Stmt := inClass (top 36) 6
theorem sc_Net_tie : FnScope ["self", "one", "other", "delay", "number"] ["self", "one", "other", "delay"] (defScope s_Net_tie) := ⟨rfl, rfl, rfl, by decide +kernel, rfl, by decide +kernel, by decide +kernel⟩
theorem ok_Net_tie {c : Cl} {X : Xt} {f : Addr} {fd : FuncData} (F : FunD K "tie" "Net.tie" s_Net_tie f fd) (O : Cl.Ok K c) (T : TxtN mg) (TH : TxtH mg) (TX : TxtY K mg X) (D_Net_check_ends : DmX P w K mg base 2 c.net "check_ends" ["self", "one", "other"] (sp_ends c X)) (D_is_delay : Df P w K mg base 2 "is_delay" ["number"] sp_is_delay) :
    FnOk P w K mg base (CXE P w) 3 f fd ["self", "one", "other", "delay"] (sp_tie c X) := by
  obtain ⟨tl, hg_MOST_TIES⟩ := TH.mot
  refine F.okX sc_Net_tie (fun vs H Q E h => ?_) (fun cdv A outer s H vs Q E hr h => ?_)
  · obtain ⟨n, dp, dt, S, x, y, d, rfl, _⟩ := h
    rfl
  · obtain ⟨n, dp, dt, S, x, y, d, rfl, N, hx, hy, hz, hnum, q1, q2, q3, q4, q5⟩ := h
    have ND := sc_Net_tie.nd
    obtain ⟨dx, h1⟩ := id N.ins
    obtain ⟨kvs, hd, hp⟩ := id N.ties
    have hl := Paired.length hp
    refine ⟨_, (pss_cons (ps_expr (pe_methX on_def (pv 0) D_Net_check_ends (hr.mono (by decide)) (pa_cons (pv 1) (pa_cons (pv 2) pa_nil))))
  (pss_cons (ps_if (pt_not (pt_val (pe_callD D_is_delay (hr.mono (by decide)) rfl (pa_cons (pv 3) pa_nil))))
    (pss_one (ps_raise0 rfl made_def rfl TX.c_NoNumber TX.x_NoNumber))
    pss_nil)
  (pss_cons (ps_if (pt_cmpR op_ge (pe_callB call_len_dK rfl T.n_len boot_len (pa_cons (fldK K (pv 0) rfl) pa_nil)) (pe_glob (v := .int 40) rfl hg_MOST_TIES ⟨_, rfl⟩) (nomark _))
    (pss_one (ps_raise0 rfl made_def rfl TX.c_TooMany TX.x_TooMany))
    pss_nil)
  (pss_cons (ps_set (i := 4) ND rfl (by first | exact Or.inl rfl | exact Or.inr rfl) (fldK K (pv 0) rfl))
  (pss_cons (ps_dput (hu_of hr) (fldK K (pv 0) rfl) (pv 4) (pe_tupS (pa_cons (pv 4) (pa_cons (pv 1) (pa_cons (pv 2) (pa_cons (pv 3) pa_nil))))) rfl)
  (pss_cons (ps_fld (pv 0) (pe_op op_add (pv 4) pe_int) rfl)
  (pss_one (ps_ret (pv 4))))))))), ?_⟩
    refine ⟨_, rfl, n, dx, _, rfl, h1, rfl, _, rfl, _, rfl, n, dp, dt, S, x, y, rfl, N, hx, hy, hz, q1, q2, fun hb hL H1 e1 => ?_⟩
    refine ⟨_, rfl, d, rfl, _, rfl, ?_⟩
    cases hi : isDelay d with
    | false => exact iteT (q3 hb hL hi H1 e1)
    | true =>
      refine iteF ?_
      refine ⟨_, rfl, n, c.net, dx, _, _, rfl, e1 _ _ h1, O.cn, O.ft, rfl, dt, kvs, rfl, e1 _ _ hd, _, _, rfl, rfl, _, rfl, ite2 (fun g => ?_) (fun g => ?_)⟩
      · exact q4 hb hL hi (by have := of_decide_eq_true g; omega) H1 e1
      · have g : S.ties.length < 40 := by
          have : ¬ (40 : Int) ≤ (kvs.length : Int) := fun z => g (decide_eq_true z)
          omega
        refine ⟨_, rfl, n, c.net, dx, _, _, rfl, e1 _ _ h1, O.cn, O.fn, rfl, ?_⟩
        refine ⟨_, rfl, _, rfl, _, rfl, _, rfl, (by show 4 ≤ sizeLine; decide), fun tp H2 e2 h02 htp => ?_⟩
        have e12 := e1.trans e2
        have hv : valV kvs (Sum.inl S.next) = none := by
          cases hs : valV kvs (Sum.inl S.next) with
          | none => rfl
          | some v =>
            obtain ⟨t, ht, et⟩ := List.mem_map.mp ((val_tie (k := S.next) hp).mp (by rw [hs]; rfl))
            have := hnum t ht
            omega
        have nnt : n ≠ dt := ne_of h1 hd (fun z => nomatch z)
        refine ⟨_, rfl, n, c.net, dx, _, _, rfl, e12 _ _ h1, O.cn, O.ft, rfl, _, rfl, dt, _, rfl, DPut.k (k := Sum.inl S.next) (e12 _ _ hd) (by show kvs.length < 2 ^ 24; omega), ?_⟩
        rw [putK_new _ hv]
        refine ⟨_, rfl, _, _, rfl, rfl, _, rfl, n, c.net, dx, _, rfl, by rw [upd_ne nnt]; exact e12 _ _ h1, O.cn, O.fn, (by show 3 < 1000; decide), ?_⟩
        have b2 : But2 n dt H (upd (upd H2 dt (.dK (kvs ++ [(Sum.inl S.next, .ref tp)]))) n (.ins c.net dx [("kept_posts", .ref dp), ("kept_ties", .ref dt), ("next_number", .int (S.next + 1))])) := fun a o na nd ha => by
          rw [upd_ne na, upd_ne nd]; exact e12 _ _ ha
        refine ⟨_, rfl, q5 hb hL hi g _ b2 ?_⟩
        obtain ⟨_, ⟨kp, h2, p2⟩, _, h4⟩ := N
        have keepP : ∀ {v : V} {q : Str × Kd}, PostAt c H v q → v ≠ .ref n → PostAt c _ v q := fun {v q} ⟨b, dxb, eb, hb⟩ hne => ⟨b, dxb, eb, b2 b _ (fun z => hne (by rw [eb, z])) (ne_of hb hd (fun z => nomatch z)) hb⟩
        have keepT : ∀ {v : V} {t : Tie}, TieAt H v t → TieAt _ v t := fun {v t} ⟨b, eb, hb⟩ => ⟨b, eb, b2 b _ (ne_of hb h1 (fun z => nomatch z)) (ne_of hb hd (fun z => nomatch z)) hb⟩
        have ntp : tp ≠ n := (ne_of_none (e1 _ _ h1) h02).symm
        have ntd : tp ≠ dt := (ne_of_none (e1 _ _ hd) h02).symm
        refine ⟨⟨dx, upd_same⟩, ⟨kp, b2 dp _ (ne_of h2 h1 (fun z => nomatch z)) h4 h2, Paired.mapP p2 fun kv p ⟨a1, a2⟩ => ⟨a1, keepP a2 ?_⟩⟩, ⟨kvs ++ [(Sum.inl S.next, .ref tp)], by rw [upd_ne nnt.symm]; exact upd_same, Paired.snoc' (Paired.mapP hp fun _ _ ⟨a1, a2⟩ => ⟨a1, keepT a2⟩) ⟨rfl, tp, rfl, ?_⟩⟩, h4⟩
        · obtain ⟨b, dxb, eb, hb'⟩ := a2
          rintro z
          rw [z] at eb
          cases eb
          rw [h1] at hb'
          injection hb' with hb'
          injection hb' with _ _ hb'
          cases hb'
        · rw [upd_ne ntp, upd_ne ntd]
          exact htp
end
end K32
set_option maxRecDepth 100000
namespace K32
open PySem L2 L2.Wy
open PyProof.Rows (boot_list boot_int boot_bool boot_tuple boot_str boot_dict boot_all)
def usedD (U : List Int) : HO := .dK (U.map fun k => ((Sum.inl k : Key), V.bl true))
theorem used_val (U : List Int) (k : Int) : (valV (U.map fun k => ((Sum.inl k : Key), V.bl true)) (Sum.inl k)).isSome = decide (k ∈ U) := by
  induction U with
  | nil => simp [valV]
  | cons r U ih =>
    rw [List.map_cons]
    by_cases h : r = k
    · rw [valV_pos (by rw [h])]
      simp [h]
    · rw [valV_neg (fun z => h (Sum.inl.inj z)), ih]
      simp [Ne.symm h]
def oS : Option Str → V
  | none => .non
  | some z => .str z
theorem inV_ints (x : Int) : ∀ zs : List Int, inV (.int x) (zs.map V.int) = decide (x ∈ zs)
  | [] => by simp [inV]
  | z :: zs => by
    have ih := inV_ints x zs
    unfold inV at ih ⊢
    rw [List.map_cons, List.any_cons, ih]
    by_cases h : x = z
    · subst h
      have : eqV (V.int x) (V.int x) = true := by show decide _ = true; simp
      rw [this]
      simp
    · have : eqV (V.int z) (V.int x) = false := by show decide _ = false; simp [Ne.symm h]
      rw [this]
      simp [h]
theorem flat_ints (zs : List Int) : (zs.map V.int).all flatV = true := by
  rw [List.all_map, List.all_eq_true]
  intro z _
  rfl
theorem kept_rows {H : Hp} {xs : List V} {ts : List Tie} (hp : Paired (TieAt H) xs ts) (keep : Tie → Bool) : Paired (TieAt H) (((List.range xs.length).filter fun i => keep (ts.getD i (0, "", "", 0))).map fun i => xs.getD i .non) (ts.filter keep) := by
  have hxl := Paired.length hp
  have e : ((List.range xs.length).filter fun i => keep (ts.getD i (0, "", "", 0))).map (fun i => xs.getD i .non) = ((xs.zip ts).filter fun z => keep z.2).map (·.1) := by
    have hzl : (xs.zip ts).length = xs.length := by rw [List.length_zip]; omega
    rw [← hzl]
    exact range_filter_map (xs.zip ts) (fun z => keep z.2) (·.1) _ _ fun j z ez => by
      obtain ⟨q1, q2⟩ := List.getElem?_zip_eq_some.mp ez
      rw [List.getD_eq_getElem?_getD, q2, List.getD_eq_getElem?_getD, q1]
      exact ⟨rfl, rfl⟩
  rw [e]
  clear e hxl
  induction hp with
  | nil => exact .nil
  | @cons a b l1 l2 h hp ih =>
    rw [List.zip_cons_cons, List.filter_cons, List.filter_cons]
    cases hk : keep b with
    | true =>
      show Paired (TieAt H) (List.map (·.1) ((a, b) :: _)) (b :: _)
      exact .cons h ih
    | false => exact ih
def stand (ts : List Tie) : Option (List Int) → List Tie
  | none => ts
  | some fs => ts.filter fun t => !decide (t.1 ∈ fs)
def FallAt (H : Hp) : V → Option (List Int) → Prop
  | v, none => v = .non
  | v, some fs => ∃ l, v = .ref l ∧ H l = some (.lst (fs.map V.int))
section
variable {P : Program} {w : World} {K : PySem.W.Frag} {mg : Str → Option Value} {base : Heap}
def sp_standing_ties (c : Cl) : Sp := fun vs H Q _ => ∃ (n dp dt : Addr) (S : NS) (fv : V) (fo : Option (List Int)), vs = [.ref n, fv] ∧ NetAt c H n dp dt S ∧ S.ties.length ≤ 1000 ∧ FallAt H fv fo ∧ ∀ l H', Same H H' → H l = none → TiesAt H' l (stand S.ties fo) → Q (.ref l) H'
abbrev s_standing_ties : Stmt := top 12
theorem sc_standing_ties : FnScope ["net", "fallen"] ["net", "fallen"] (defScope s_standing_ties) := ⟨rfl, rfl, rfl, by decide +kernel, rfl, by decide +kernel, by decide +kernel⟩
theorem ok_standing_ties {c : Cl} {f : Addr} {fd : FuncData} (F : Fun K "standing_ties" "standing_ties" s_standing_ties f fd) (D_Net_ties : Dm P w K mg base 1 c.net "ties" ["self"] (sp_ties c)) : FnOk P w K mg base CX0 2 f fd ["net", "fallen"] (sp_standing_ties c) := by
  refine F.ok sc_standing_ties (fun vs H Q E h => ?_) (fun cdv A outer s H vs Q E hr h => ?_)
  · obtain ⟨n, dp, dt, S, fv, fo, rfl, _⟩ := h
    rfl
  · obtain ⟨n, dp, dt, S, fv, fo, rfl, N, hz, hf, q⟩ := h
    have ND := sc_standing_ties.nd
    obtain ⟨dx, h1⟩ := id N.ins
    refine ⟨_, (pss_cons (ps_if (pt_cmpR op_isN (pv 1) pe_non (nomark _))
    (pss_one (ps_ret (pe_meth0D (pv 0) D_Net_ties (hr.mono (by decide)))))
    pss_nil)
  (pss_one (ps_ret (pe_comp rfl (compScope_of (nT := 1) (js := [1]) (N' := ["tie", "fallen"]) rfl rfl (by kernel_rfl)) (pilK K (pe_meth0D (pv 0) D_Net_ties (hr.mono (by decide))))
    (fun _ _ _ _ _ => (pg_name (i := 0) (show List.Nodup (["tie", "fallen"] : List Str) by decide +kernel) rfl (by first | exact Or.inl rfl | exact Or.inr rfl)))
    (fun _ _ _ _ _ => (pif_one (pt_cmpR (notinK K) (pe_ix (ixtK K) (pv 0) pe_int (fun _ _ => rfl)) (pv 1) (by with_unfolding_all rfl))))
    (fun _ _ _ _ _ => (pv 0)))))), ?_⟩
    cases fo with
    | none =>
      have hf : fv = .non := hf
      subst hf
      exact ⟨_, rfl, rfl, _, rfl, iteT ⟨_, rfl, n, dx, _, rfl, h1, rfl, n, dp, dt, S, rfl, N, hz, q⟩⟩
    | some fs =>
      obtain ⟨lf, rfl, hlf⟩ := hf
      refine ⟨_, rfl, rfl, _, rfl, iteF ⟨_, rfl, n, dx, _, rfl, h1, rfl, n, dp, dt, S, rfl, N, hz, fun l H1 e1 h01 hl => ?_⟩⟩
      obtain ⟨xs, hx, hp⟩ := hl
      have hxl := Paired.length hp
      refine ⟨l, rfl, ⟨_, SqL.of hx⟩, compG_list (K := K) (fun i => !decide ((S.ties.getD i (0, "", "", 0)).1 ∈ fs)) (fun i => xs.getD i .non) hx (by omega) (fun j x H2 ex e2 => ?_) (fun l2 H2 h2 e2 hl2 => ?_)⟩
      · obtain ⟨t, et, p, rfl, hpt⟩ := Paired.at hp ex
        have eg : S.ties.getD j (0, "", "", 0) = t := by rw [List.getD_eq_getElem?_getD, et]; rfl
        have egx : xs.getD j .non = .ref p := by rw [List.getD_eq_getElem?_getD, ex]; rfl
        rw [eg, egx]
        refine ⟨_, rfl, p, _, 0, _, rfl, rfl, SqT.of (e2 _ _ hpt), rfl, _, rfl, lf, _, rfl, .inl (SqL.of (e2 _ _ (e1 _ _ hlf))), rfl, flat_ints fs, _, rfl, ?_⟩
        rw [if_pos rfl, inV_ints]
        cases hd : decide (t.1 ∈ fs) with
        | true => exact iteF ⟨rfl, Same.refl _⟩
        | false => exact iteT ⟨_, rfl, rfl, rfl, Same.refl _⟩
      · refine q l2 H2 (e1.trans e2) (e1.free h2) ⟨_, hl2, ?_⟩
        exact Paired.imp' (fun v t ⟨a, ha, hb⟩ => ⟨a, ha, e2 _ _ hb⟩) (kept_rows hp fun t => !decide (t.1 ∈ fs))
def sp_step_over : Sp := fun vs H Q _ => ∃ (v : V) (t : Tie) (x : Str) (u : Addr) (U : List Int), vs = [v, .str x, .ref u] ∧ TieAt H v t ∧ H u = some (usedD U) ∧ Q (oS (stp t x (inU U))) H
abbrev s_step_over : Stmt := top 14
theorem sc_step_over : FnScope ["tie", "name", "used"] ["tie", "name", "used"] (defScope s_step_over) := ⟨rfl, rfl, rfl, by decide +kernel, rfl, by decide +kernel, by decide +kernel⟩
theorem ok_step_over {f : Addr} {fd : FuncData} (F : Fun K "step_over" "step_over" s_step_over f fd) : FnOk P w K mg base CX0 1 f fd ["tie", "name", "used"] sp_step_over := by
  refine F.ok sc_step_over (fun vs H Q E h => ?_) (fun cdv A outer s H vs Q E hr h => ?_)
  · obtain ⟨v, t, x, u, U, rfl, _⟩ := h
    rfl
  · obtain ⟨v, t, x, u, U, rfl, ⟨p, rfl, hp⟩, hu, q⟩ := h
    refine ⟨_, (pss_cons (ps_if (pt_cmp (pc_din (hu_of hr) (pe_ix (ixtK K) (pv 0) pe_int (fun _ _ => rfl)) (pv 2)))
    (pss_one (ps_ret (pe_ifExp (pt_cmpR op_eq (pe_ix (ixtK K) (pv 0) pe_int (fun _ _ => rfl)) (pv 1) (nomark _)) (pe_ix (ixtK K) (pv 0) pe_int (fun _ _ => rfl)) pe_non)))
    pss_nil)
  (pss_one (ps_ret (pe_ifExp (pt_cmpR op_eq (pe_ix (ixtK K) (pv 0) pe_int (fun _ _ => rfl)) (pv 1) (nomark _)) (pe_ix (ixtK K) (pv 0) pe_int (fun _ _ => rfl)) pe_non)))), ?_⟩
    have sq := SqT.of (K := K) hp
    refine ⟨_, rfl, p, _, 0, _, rfl, rfl, sq, rfl, _, rfl, u, _, rfl, DGet.k (k := Sum.inl t.1) hu, _, rfl, ?_⟩
    rw [used_val]
    unfold stp inU at q
    cases hd : decide (t.1 ∈ U) with
    | true =>
      rw [hd, if_pos rfl] at q
      refine iteT ⟨_, rfl, p, _, 2, _, rfl, rfl, sq, rfl, _, rfl, rfl, _, rfl, ?_⟩
      by_cases hx : t.2.2.1 = x
      · rw [if_pos hx] at q
        rw [decide_eq_true (show V.str t.2.2.1 = V.str x by rw [hx])]
        exact iteT ⟨_, rfl, p, _, 1, _, rfl, rfl, sq, rfl, q⟩
      · rw [if_neg hx] at q
        rw [decide_eq_false (show ¬ V.str t.2.2.1 = V.str x from fun z => hx (by injection z))]
        exact iteF q
    | false =>
      rw [hd, if_neg (by decide)] at q
      refine iteF ⟨_, rfl, p, _, 1, _, rfl, rfl, sq, rfl, _, rfl, rfl, _, rfl, ?_⟩
      by_cases hx : t.2.1 = x
      · rw [if_pos hx] at q
        rw [decide_eq_true (show V.str t.2.1 = V.str x by rw [hx])]
        exact iteT ⟨_, rfl, p, _, 2, _, rfl, rfl, sq, rfl, q⟩
      · rw [if_neg hx] at q
        rw [decide_eq_false (show ¬ V.str t.2.1 = V.str x from fun z => hx (by injection z))]
        exact iteF q
def sp_tie_out_of : Sp := fun vs H Q _ => ∃ (l : Addr) (ts : List Tie) (x : Str) (t : Tie), vs = [.ref l, .str x] ∧ TiesAt H l ts ∧ outOf ts x = some t ∧ ∀ v, TieAt H v t → Q v H
abbrev s_tie_out_of : Stmt := top 18
theorem sc_tie_out_of : FnScope ["ties", "name", "tie"] ["ties", "name"] (defScope s_tie_out_of) := ⟨rfl, rfl, rfl, by decide +kernel, rfl, by decide +kernel, by decide +kernel⟩
theorem ok_tie_out_of {f : Addr} {fd : FuncData} (F : Fun K "tie_out_of" "tie_out_of" s_tie_out_of f fd) : FnOk P w K mg base CX0 1 f fd ["ties", "name"] sp_tie_out_of := by
  refine F.ok sc_tie_out_of (fun vs H Q E h => ?_) (fun cdv A outer s H vs Q E hr h => ?_)
  · obtain ⟨l, ts, x, t, rfl, _⟩ := h
    rfl
  · obtain ⟨l, ts, x, t, rfl, ⟨xs, hx, hp⟩, ho, q⟩ := h
    have ND := sc_tie_out_of.nd
    have hxl := Paired.length hp
    refine ⟨_, (pss_cons (ps_for PassesOwn.never rfl (pilK K (pv 0)) (pg_name (i := 2) ND rfl (by first | exact Or.inl rfl | exact Or.inr rfl))
    (pss_one (ps_if (pt_cmpR op_eq (pe_ix (ixtK K) (pv 2) pe_int (fun _ _ => rfl)) (pv 1) (nomark _))
    (pss_one (ps_ret (pv 2)))
    pss_nil)))
  (pss_one (ps_ret pe_non))), ?_⟩
    refine ⟨_, rfl, l, rfl, ⟨_, SqL.of hx⟩, for_list (K := K) (xs := xs) (fun i σ H' => H' = H ∧ (∃ o, σ = [some (.ref l), some (.str x), o]) ∧ ∀ u ∈ ts.take i, ¬ u.2.1 = x)
      ⟨rfl, ⟨_, rfl⟩, fun u hu => by simp at hu⟩ (fun i σ H' _ h => by rw [h.1]; exact SqL.of hx) ?_ ?_⟩
    · rintro i v σ H' ev ⟨rfl, ⟨o, rfl⟩, hno⟩
      obtain ⟨u, eu, p, rfl, hpu⟩ := Paired.at hp ev
      refine ⟨_, rfl, p, _, 1, _, rfl, rfl, SqT.of hpu, rfl, _, rfl, rfl, _, rfl, ?_⟩
      by_cases hux : u.2.1 = x
      · rw [decide_eq_true (show V.str u.2.1 = V.str x by rw [hux])]
        have : u = t := by
          have hf : outOf ts x = some u := by
            unfold outOf
            rw [← List.take_append_drop i ts, List.find?_append, List.find?_eq_none.mpr (fun z hz => by simpa using hno z hz)]
            have : ts.drop i = u :: ts.drop (i + 1) := by
              obtain ⟨hi, e⟩ := List.getElem?_eq_some_iff.mp eu
              rw [List.drop_eq_getElem_cons hi, e]
            rw [this, List.find?_cons, decide_eq_true hux]
            rfl
          exact Option.some.inj (hf.symm.trans ho)
        subst this
        exact iteT ⟨_, rfl, q _ ⟨p, rfl, hpu⟩⟩
      · rw [decide_eq_false (show ¬ V.str u.2.1 = V.str x from fun z => hux (by injection z))]
        refine iteF ⟨rfl, ⟨_, rfl⟩, fun z hz => ?_⟩
        have tk : ts.take (i + 1) = ts.take i ++ [u] := by rw [List.take_add_one, eu]; rfl
        rw [tk] at hz
        rcases List.mem_append.mp hz with hz | hz
        · exact hno z hz
        · rw [List.mem_singleton.mp hz]; exact hux
    · rintro σ H' ⟨rfl, ⟨o, rfl⟩, hno⟩
      rw [hxl, List.take_length] at hno
      exact absurd (out_mem ho).2 (hno t (out_mem ho).1)
end
end K32
set_option maxRecDepth 100000
namespace K32
open PySem L2 L2.Wy
open PyProof.Rows (boot_list boot_int boot_bool boot_tuple boot_str boot_dict boot_all)
theorem wlk_end {ts : List Tie} {x y z : Str} {ws : List Tie} (A : Wlk ts x ws y) (B : Wlk ts x ws z) : y = z := by
  cases A with
  | nil =>
    generalize hw : ([] : List Tie) = ws at B
    cases B with
    | nil => rfl
    | snoc B ht => exact absurd hw (by simp)
  | @snoc ws t A ht =>
    generalize hw : ws ++ [t] = vs at B
    cases B with
    | nil => exact absurd hw (by simp)
    | @snoc ws' t' B ht' =>
      obtain ⟨_, e⟩ := List.append_inj' hw rfl
      injection e with e
      rw [e]
def StepAt (H : Hp) : V → Option (Int × Str) → Prop
  | v, none => v = .non
  | v, some s => ∃ a, v = .ref a ∧ H a = some (.tup [.int s.1, .str s.2])
theorem StepAt.mono {H H' : Hp} {v : V} {s : Option (Int × Str)} (e : Same H H') (h : StepAt H v s) : StepAt H' v s := by
  cases s with
  | none => exact h
  | some s => obtain ⟨a, h1, h2⟩ := h; exact ⟨a, h1, e _ _ h2⟩
def CmV (H : Hp) (kv : Key × V) (q : Str × Option (Int × Str)) : Prop := kv.1 = Sum.inr q.1 ∧ StepAt H kv.2 q.2
def CameAt (H : Hp) (d : Addr) (c : Cm Str) : Prop := ∃ kvs, H d = some (.dK kvs) ∧ Paired (CmV H) kvs c
theorem CameAt.mono {H H' : Hp} {d : Addr} {c : Cm Str} (e : Same H H') (h : CameAt H d c) : CameAt H' d c := by
  obtain ⟨kvs, h1, h2⟩ := h
  exact ⟨kvs, e _ _ h1, Paired.imp' (fun kv q z => ⟨z.1, z.2.mono e⟩) h2⟩
theorem came_val {H : Hp} {kvs : List (Key × V)} {c : Cm Str} (h : Paired (CmV H) kvs c) (y : Str) : (valV kvs (Sum.inr y)).isSome = decide (y ∈ keys c) := by
  induction h with
  | nil => simp [valV, keys]
  | @cons kv q kvs c hq h ih =>
    by_cases e : q.1 = y
    · rw [valV_pos (by rw [hq.1, e])]
      simp [keys, e]
    · rw [valV_neg (fun z => e (Sum.inr.inj (hq.1.symm.trans z))), ih]
      have ek : keys (q :: c) = q.1 :: keys c := rfl
      rw [ek]
      simp [Ne.symm e]
theorem came_get {H : Hp} {kvs : List (Key × V)} {c : Cm Str} (h : Paired (CmV H) kvs c) {y : Str} {s : Option (Int × Str)} (hf : c.find? (fun q => decide (q.1 = y)) = some (y, s)) : ∃ v, valV kvs (Sum.inr y) = some v ∧ StepAt H v s := by
  induction h with
  | nil => cases hf
  | @cons kv q kvs c hq h ih =>
    by_cases e : q.1 = y
    · rw [List.find?_cons, decide_eq_true e] at hf
      cases hf
      exact ⟨_, valV_pos hq.1, hq.2⟩
    · rw [List.find?_cons, decide_eq_false e] at hf
      rw [valV_neg (fun z => e (Sum.inr.inj (hq.1.symm.trans z)))]
      exact ih hf
section
variable {P : Program} {w : World} {K : PySem.W.Frag} {mg : Str → Option Value} {base : Heap}
def sp_ties_between : Sp := fun vs H Q _ => ∃ (l d : Addr) (ts : List Tie) (c : Cm Str), vs = [.ref l, .ref d] ∧ TiesAt H l ts ∧ ts.length ≤ 1000 ∧ CameAt H d c ∧ ∀ lo H', Same H H' → H lo = none → H' lo = some (.lst ((cutK ts c).map V.int)) → Q (.ref lo) H'
abbrev s_ties_between : Stmt := top 17
theorem sc_ties_between : FnScope ["ties", "came"] ["ties", "came"] (defScope s_ties_between) := ⟨rfl, rfl, rfl, by decide +kernel, rfl, by decide +kernel, by decide +kernel⟩
theorem ok_ties_between {f : Addr} {fd : FuncData} (F : Fun K "ties_between" "ties_between" s_ties_between f fd) : FnOk P w K mg base CX0 1 f fd ["ties", "came"] sp_ties_between := by
  refine F.ok sc_ties_between (fun vs H Q E h => ?_) (fun cdv A outer s H vs Q E hr h => ?_)
  · obtain ⟨l, d, ts, c, rfl, _⟩ := h
    rfl
  · obtain ⟨l, d, ts, c, rfl, ⟨xs, hx, hp⟩, hz, ⟨kvs, hd, hc⟩, q⟩ := h
    have ND := sc_ties_between.nd
    have hxl := Paired.length hp
    refine ⟨_, (pss_one (ps_ret (pe_comp rfl (compScope_of (nT := 4) (js := [1]) (N' := ["number", "one", "other", "delay", "came"]) rfl rfl (by kernel_rfl)) (pilK K (pv 0))
    (fun _ _ _ _ _ => (pgtK K (n := 4) rfl (pgs_cons (pg_name (i := 0) (show List.Nodup (["number", "one", "other", "delay", "came"] : List Str) by decide +kernel) rfl (by first | exact Or.inl rfl | exact Or.inr rfl)) (pgs_cons (pg_name (i := 1) (show List.Nodup (["number", "one", "other", "delay", "came"] : List Str) by decide +kernel) rfl (by first | exact Or.inl rfl | exact Or.inr rfl)) (pgs_cons (pg_name (i := 2) (show List.Nodup (["number", "one", "other", "delay", "came"] : List Str) by decide +kernel) rfl (by first | exact Or.inl rfl | exact Or.inr rfl)) (pgs_cons (pg_name (i := 3) (show List.Nodup (["number", "one", "other", "delay", "came"] : List Str) by decide +kernel) rfl (by first | exact Or.inl rfl | exact Or.inr rfl)) pgs_nil))))))
    (fun _ _ _ _ _ => (pif_one (PW.pt (pw_and (pt_cmp (pc_din (hu_of hr) (pv 1) (pv 4))) (pw_and1 (pt_cmp (pc_dnotin (hu_of hr) (pv 2) (pv 4))))))))
    (fun _ _ _ _ _ => (pv 0))))), ?_⟩
    refine ⟨_, rfl, l, rfl, ⟨_, SqL.of hx⟩, compG4_list (K := K) (fun i => cutB (fun z => decide (z ∈ keys c)) (ts.getD i (0, "", "", 0))) (fun i => .int (ts.getD i (0, "", "", 0)).1) hx (by omega) (fun i x ex => ?_) (fun i p x1 x2 x3 x4 H2 ex hp' e2 => ?_) (fun lo H2 h2 e2 hlo => ?_)⟩
    · obtain ⟨t, et, p, rfl, hpt⟩ := Paired.at hp ex
      exact ⟨p, _, _, _, _, rfl, hpt⟩
    · obtain ⟨t, et, p', ep, hpt⟩ := Paired.at hp ex
      cases ep
      rw [hp'] at hpt
      cases hpt
      have eg : ts.getD i (0, "", "", 0) = t := by rw [List.getD_eq_getElem?_getD, et]; rfl
      rw [eg]
      have hd2 := e2 _ _ hd
      refine ⟨_, rfl, _, rfl, d, _, rfl, DGet.k (k := Sum.inr t.2.1) hd2, _, rfl, ?_⟩
      rw [came_val hc]
      have cb : cutB (fun z => decide (z ∈ keys c)) t = (decide (t.2.1 ∈ keys c) && !decide (t.2.2.1 ∈ keys c)) := rfl
      rw [cb]
      cases h1 : decide (t.2.1 ∈ keys c) with
      | false => exact iteF (iteF ⟨rfl, Same.refl _⟩)
      | true =>
        refine iteT ⟨_, rfl, _, rfl, d, _, rfl, DGet.k (k := Sum.inr t.2.2.1) hd2, _, rfl, ?_⟩
        rw [came_val hc]
        cases h2 : decide (t.2.2.1 ∈ keys c) with
        | true => exact iteF ⟨rfl, Same.refl _⟩
        | false => exact iteT ⟨_, rfl, rfl, rfl, Same.refl _⟩
    · refine q lo H2 e2 h2 ?_
      rw [hlo, hxl, range_filter_map ts (cutB fun z => decide (z ∈ keys c)) (fun t => V.int t.1) _ _ fun i t et => by rw [List.getD_eq_getElem?_getD, et]; exact ⟨rfl, rfl⟩]
      unfold cutK nums cutOf
      rw [List.map_map]
      rfl
def sp_one_way : Sp := fun vs H Q _ => ∃ (l : Addr) (L : List Tie) (h g : Str) (N : Nat), vs = [.ref l, .str h, .str g] ∧ TiesAt H l L ∧ Wlk L h (oneF L g N h) g ∧ (oneF L g N h).length ≤ 1000 ∧ ∀ lw H', Same H H' → H lw = none → H' lw = some (.lst ((nums (oneF L g N h)).map V.int)) → Q (.ref lw) H'
abbrev s_one_way : Stmt := top 19
theorem sc_one_way : FnScope ["ties", "home", "listener", "way", "name", "tie"] ["ties", "home", "listener"] (defScope s_one_way) := ⟨rfl, rfl, rfl, by decide +kernel, rfl, by decide +kernel, by decide +kernel⟩
theorem ok_one_way {f : Addr} {fd : FuncData} (F : Fun K "one_way" "one_way" s_one_way f fd) (D_tie_out_of : Df P w K mg base 1 "tie_out_of" ["ties", "name"] sp_tie_out_of) : FnOk P w K mg base CX0 2 f fd ["ties", "home", "listener"] sp_one_way := by
  refine F.ok sc_one_way (fun vs H Q E h => ?_) (fun cdv A outer s H vs Q E hr h => ?_)
  · obtain ⟨l, L, h, g, N, rfl, _⟩ := h
    rfl
  · obtain ⟨l, L, h, g, N, rfl, hL, W, hz, q⟩ := h
    have ND := sc_one_way.nd
    refine ⟨_, (pss_cons (ps_set (i := 3) ND rfl (by first | exact Or.inl rfl | exact Or.inr rfl) (pe_lstS pa_nil))
  (pss_cons (ps_set (i := 4) ND rfl (by first | exact Or.inl rfl | exact Or.inr rfl) (pv 1))
  (pss_cons (ps_while PassesOwn.never (pt_cmpR op_ne (pv 4) (pv 2) (nomark _))
    (pss_cons (ps_set (i := 5) ND rfl (by first | exact Or.inl rfl | exact Or.inr rfl) (pe_callD D_tie_out_of (hr.mono (by decide)) rfl (pa_cons (pv 0) (pa_cons (pv 4) pa_nil))))
  (pss_cons (ps_expr (bmK K PySem.F.plainAttrs_list PySem.F.slot_list_append PySem.F.type_list_append mt_append (pv 3) (pa_cons (pe_ix (ixtK K) (pv 5) pe_int (fun _ _ => rfl)) pa_nil)))
  (pss_one (ps_set (i := 4) ND rfl (by first | exact Or.inl rfl | exact Or.inr rfl) (pe_ix (ixtK K) (pv 5) pe_int (fun _ _ => rfl)))))))
  (pss_one (ps_ret (pv 3)))))), ?_⟩
    refine ⟨(by show 0 ≤ sizeLine; decide), fun lw H1 e1 h1 hlw => ?_⟩
    refine ⟨_, rfl, ?_⟩
    refine ⟨fun n σ H2 => ∃ x ws o, σ = [some (.ref l), some (.str h), some (.str g), some (.ref lw), some (.str x), o] ∧ Same H H2 ∧ H2 lw = some (.lst ((nums ws).map V.int)) ∧ Wlk L h ws x ∧ oneF L g N h = ws ++ oneF L g n x,
      ⟨N, h, [], none, rfl, e1, hlw, .nil h, rfl⟩, ?_⟩
    rintro n σ H2 ⟨x, ws, o, rfl, e2, hw2, Wx, eN⟩
    refine ⟨_, rfl, _, rfl, rfl, _, rfl, ite2 (fun hne => ?_) (fun hne => ?_)⟩
    · have hxg : ¬ x = g := fun z => by rw [z, decide_eq_true rfl] at hne; cases hne
      obtain ⟨m, t, rfl, ht⟩ : ∃ m t, n = m + 1 ∧ outOf L x = some t := by
        cases n with
        | zero =>
          have e0 : oneF L g 0 x = [] := rfl
          rw [e0, List.append_nil] at eN
          rw [eN] at W
          exact absurd (wlk_end Wx W) hxg
        | succ m =>
          cases ho : outOf L x with
          | some t => exact ⟨m, t, rfl, rfl⟩
          | none =>
            have e0 := oneF_none (n := m) hxg ho
            rw [e0, List.append_nil] at eN
            rw [eN] at W
            exact absurd (wlk_end Wx W) hxg
      have e0 := oneF_next (n := m) hxg ht
      obtain ⟨ht1, ht2⟩ := out_mem ht
      have hwl : ws.length < 1000 := by
        rw [eN, e0, List.length_append, List.length_cons] at hz
        omega
      refine ⟨fun σ' H' => ∃ m', m' < m + 1 ∧ ∃ x ws o, σ' = [some (.ref l), some (.str h), some (.str g), some (.ref lw), some (.str x), o] ∧ Same H H' ∧ H' lw = some (.lst ((nums ws).map V.int)) ∧ Wlk L h ws x ∧ oneF L g N h = ws ++ oneF L g m' x, fun σ' H' h => h, ?_⟩
      refine ⟨_, rfl, _, rfl, l, L, x, t, rfl, hL.mono e2, ht, fun v hv => ?_⟩
      obtain ⟨p, rfl, hp⟩ := hv
      refine ⟨_, rfl, .inl ⟨rfl, _, SqL.of hw2⟩, _, rfl, p, _, 0, _, rfl, rfl, SqT.of hp, rfl, lw, _, _, rfl, rfl, hw2, ?_, ?_⟩
      · unfold nums
        rw [List.length_map, List.length_map]
        show ws.length < 2 ^ 24
        omega
      have npl : p ≠ lw := fun z => by rw [z, hw2] at hp; cases hp
      have hp' : upd H2 lw (.lst ((nums ws).map V.int ++ [V.int t.1])) p = some (.tup [.int t.1, .str t.2.1, .str t.2.2.1, .int t.2.2.2]) := by rw [upd_ne npl]; exact hp
      refine ⟨_, rfl, p, _, 2, _, rfl, rfl, SqT.of hp', rfl, m, by omega, t.2.2.1, ws ++ [t], _, rfl, same_new e2 h1, ?_, ?_, ?_⟩
      · rw [upd_same]
        unfold nums
        rw [List.map_append, List.map_append]
        rfl
      · exact .snoc (by rw [ht2]; exact Wx) ht1
      · rw [eN, e0]
        simp
    · have hxg : x = g := by
        cases hd : decide (V.str x = V.str g) with
        | true => have := of_decide_eq_true hd; injection this
        | false => rw [hd] at hne; exact absurd rfl hne
      have e0 := oneF_goal (L := L) (n := n) hxg
      rw [e0, List.append_nil] at eN
      refine ⟨_, rfl, q lw H2 e2 h1 ?_⟩
      rw [eN]
      exact hw2
end
end K32
set_option maxRecDepth 100000
namespace K32
open PySem L2 L2.Wy
open PyProof.Rows (boot_list boot_int boot_bool boot_tuple boot_str boot_dict boot_all)
structure TxtD (mg : Str → Option Value) : Prop where
  n_dict : mg "dict" = none
  n_len : mg "len" = none
  n_range : mg "range" = none
theorem used_none {U : List Int} {k : Int} (h : ¬ k ∈ U) : valV (U.map fun k => ((Sum.inl k : Key), V.bl true)) (Sum.inl k) = none := by
  cases hs : valV (U.map fun k => ((Sum.inl k : Key), V.bl true)) (Sum.inl k) with
  | none => rfl
  | some v =>
    have := used_val U k
    rw [hs, decide_eq_false h] at this
    cases this
theorem used_some {U : List Int} {k : Int} (h : k ∈ U) : ∃ v, valV (U.map fun k => ((Sum.inl k : Key), V.bl true)) (Sum.inl k) = some v := by
  cases hs : valV (U.map fun k => ((Sum.inl k : Key), V.bl true)) (Sum.inl k) with
  | some v => exact ⟨v, rfl⟩
  | none =>
    have := used_val U k
    rw [hs, decide_eq_true h] at this
    cases this
theorem used_drop (U : List Int) (k : Int) : dropK (U.map fun k => ((Sum.inl k : Key), V.bl true)) (Sum.inl k) = (U.filter fun j => !decide (j = k)).map fun k => ((Sum.inl k : Key), V.bl true) := by
  unfold dropK
  rw [List.filter_map]
  congr 1
  refine List.filter_congr fun j _ => ?_
  by_cases h : j = k
  · simp [h]
  · simp [h]
theorem used_merge {U : List Int} (h : U.Nodup) : mergeK [] (U.map fun k => ((Sum.inl k : Key), V.bl true)) = U.map fun k => ((Sum.inl k : Key), V.bl true) := by
  have : ∀ (a b : List Int), (a ++ b).Nodup → mergeK (a.map fun k => ((Sum.inl k : Key), V.bl true)) (b.map fun k => ((Sum.inl k : Key), V.bl true)) = (a ++ b).map fun k => ((Sum.inl k : Key), V.bl true) := by
    intro a b
    induction b generalizing a with
    | nil => intro _; rw [List.append_nil]; rfl
    | cons k b ih =>
      intro h
      have hk : ¬ k ∈ a := fun z => (List.nodup_append.mp h).2.2 k z k (List.mem_cons_self ..) rfl
      show mergeK (putK (a.map fun k => ((Sum.inl k : Key), V.bl true)) (Sum.inl k) (.bl true)) (b.map fun k => ((Sum.inl k : Key), V.bl true)) = _
      rw [putK_new _ (used_none hk)]
      have := ih (a ++ [k]) (by simpa using h)
      rw [List.map_append] at this
      simpa using this
  simpa using this [] U (by simpa using h)
theorem tog_len (U : List Int) (k : Int) : (tog U k).length ≤ U.length + 1 := by
  unfold tog
  split
  · exact Nat.le_succ_of_le (List.length_filter_le _ _)
  · rw [List.length_append]; exact Nat.le_refl _
section
variable {P : Program} {w : World} {K : PySem.W.Frag} {mg : Str → Option Value} {base : Heap}
def sp_used_with : Sp := fun vs H Q _ => ∃ (u d : Addr) (U : List Int) (c : Cm Str) (ts : List Tie) (h g : Str) (N : Nat), vs = [.ref u, .ref d, .str g] ∧ H u = some (usedD U) ∧ CameAt H d c ∧ Came ts (inU U) h c ∧ Nums ts ∧ g ∈ keys c ∧ U.Nodup ∧ c.length ≤ N ∧ c.length ≤ 1000 ∧ U.length ≤ 10000000 ∧
  ∀ t H', Same H H' → H t = none → H' t = some (usedD (useF c N U (stepOf c g))) → Q (.ref t) H'
abbrev s_used_with : Stmt := top 16
theorem sc_used_with : FnScope ["used", "came", "listener", "told", "step"] ["used", "came", "listener"] (defScope s_used_with) := ⟨rfl, rfl, rfl, by decide +kernel, rfl, by decide +kernel, by decide +kernel⟩
theorem ok_used_with {f : Addr} {fd : FuncData} (F : Fun K "used_with" "used_with" s_used_with f fd) (T : TxtD mg) : FnOk P w K mg base CX0 1 f fd ["used", "came", "listener"] sp_used_with := by
  refine F.ok sc_used_with (fun vs H Q E h => ?_) (fun cdv A outer s H vs Q E hr h => ?_)
  · obtain ⟨u, d, U, c, ts, h, g, N, rfl, _⟩ := h
    rfl
  · obtain ⟨u, d, U, c, ts, h, g, N, rfl, hu, ⟨kvs, hd, hc⟩, C, nd, hg, hU, hN, hc1, hU1, q⟩ := h
    have ND := sc_used_with.nd
    refine ⟨_, (pss_cons (ps_set (i := 3) ND rfl (by first | exact Or.inl rfl | exact Or.inr rfl) (pe_callTy call_dict_dK rfl T.n_dict boot_dict (pa_cons (pv 0) pa_nil)))
  (pss_cons (ps_set (i := 4) ND rfl (by first | exact Or.inl rfl | exact Or.inr rfl) (pe_dget (hu_of hr) (pv 1) (pv 2) (fun _ _ => rfl)))
  (pss_cons (ps_while PassesOwn.never (pt_cmpR op_notN (pv 4) pe_non (nomark _))
    (pss_cons (ps_ifJ (pt_cmp (pc_din (hu_of hr) (pe_ix (ixtK K) (pv 4) pe_int (fun _ _ => rfl)) (pv 3)))
    (pss_one (ps_expr (pe_dpop1 (pv 3) (pe_ix (ixtK K) (pv 4) pe_int (fun _ _ => rfl)) ⟨rfl, rfl, rfl, rfl⟩)))
    (pss_one (ps_dput (hu_of hr) (pv 3) (pe_ix (ixtK K) (pv 4) pe_int (fun _ _ => rfl)) pe_bl rfl)))
  (pss_one (ps_set (i := 4) ND rfl (by first | exact Or.inl rfl | exact Or.inr rfl) (pe_dget (hu_of hr) (pv 1) (pe_ix (ixtK K) (pv 4) pe_int (fun _ _ => rfl)) (fun _ _ => rfl))))))
  (pss_one (ps_ret (pv 3)))))), ?_⟩
    refine ⟨_, rfl, u, _, rfl, hu, fun t H1 e1 h1 ht => ?_⟩
    rw [used_merge hU] at ht
    obtain ⟨pre, s0, post, ec⟩ := mem_split hg
    have B0 := Back.start (ts := ts) (U := inU U) ec
    obtain ⟨b1, b2, b3⟩ := B0.look C
    obtain ⟨v0, hv0, hs0⟩ := came_get hc b2
    refine ⟨_, rfl, _, rfl, d, v0, rfl, (by rw [← hv0]; exact DGet.k (k := Sum.inr g) (e1 _ _ hd)), ?_⟩
    refine ⟨fun n σ H2 => ∃ Vs y s m v, σ = [some (.ref u), some (.ref d), some (.str g), some (.ref t), some v] ∧ Same H H2 ∧ H2 t = some (usedD Vs) ∧ StepAt H v s ∧ Back ts (inU U) g c (inU Vs) y s m ∧ m < n ∧ Vs.length + m ≤ U.length + c.length ∧ useF c N U (stepOf c g) = useF c n Vs s,
      ⟨N, U, g, s0, _, v0, rfl, e1, ht, hs0, B0, by omega, by omega, by rw [b1]⟩, ?_⟩
    rintro n σ H2 ⟨Vs, y, s, m, v, rfl, e2, ht2, hs, B, hm, hl, eN⟩
    obtain ⟨n, rfl⟩ : ∃ n', n = n' + 1 := ⟨n - 1, by omega⟩
    have hd2 := e2 _ _ hd
    cases s with
    | none =>
      have hs : v = .non := hs
      subst hs
      refine ⟨_, rfl, rfl, _, rfl, iteF ⟨_, rfl, q t H2 e2 h1 ?_⟩⟩
      rw [eN]
      exact ht2
    | some kx =>
      obtain ⟨k, x⟩ := kx
      obtain ⟨a, rfl, ha⟩ := hs
      have ha2 := e2 _ _ ha
      obtain ⟨s', m', hlt, B'⟩ := B.step nd C
      rw [← tog_in] at B'
      obtain ⟨c1, c2, c3⟩ := B'.look C
      obtain ⟨v', hv', hs'⟩ := came_get hc c2
      have hgo := tog_len Vs k
      refine ⟨_, rfl, rfl, _, rfl, iteT ?_⟩
      refine ⟨fun σ' H' => ∃ n', n' < n + 1 ∧ ∃ Vs y s m v, σ' = [some (.ref u), some (.ref d), some (.str g), some (.ref t), some v] ∧ Same H H' ∧ H' t = some (usedD Vs) ∧ StepAt H v s ∧ Back ts (inU U) g c (inU Vs) y s m ∧ m < n' ∧ Vs.length + m ≤ U.length + c.length ∧ useF c N U (stepOf c g) = useF c n' Vs s, fun σ' H' h => h, ?_⟩
      refine ⟨fun σ' H' => σ' = [some (.ref u), some (.ref d), some (.str g), some (.ref t), some (.ref a)] ∧ Same H H' ∧ H' t = some (usedD (tog Vs k)), ?_, ?_⟩
      · rintro σ' H3 ⟨rfl, e3, ht3⟩
        refine ⟨_, rfl, _, rfl, a, _, 1, _, rfl, rfl, SqT.of (e3 _ _ ha), rfl, d, v', rfl, (by rw [← hv']; exact DGet.k (k := Sum.inr x) (e3 _ _ hd)), ?_⟩
        refine ⟨n, by omega, tog Vs k, x, s', m', v', rfl, e3, ht3, hs', B', by omega, by omega, ?_⟩
        rw [eN, useF_some, c1]
      · refine ⟨_, rfl, a, _, 0, _, rfl, rfl, SqT.of ha2, rfl, _, rfl, t, _, rfl, DGet.k (k := Sum.inl k) ht2, _, rfl, ?_⟩
        rw [used_val]
        by_cases hk : k ∈ Vs
        · rw [decide_eq_true hk]
          obtain ⟨w0, hw0⟩ := used_some hk
          refine iteT ⟨_, rfl, t, rfl, .inl ⟨_, .inl ht2⟩, _, rfl, a, _, 0, _, rfl, rfl, SqT.of ha2, rfl, _, Sum.inl k, w0, ht2, rfl, hw0, rfl, same_new e2 h1, ?_⟩
          rw [upd_same, used_drop]
          unfold usedD tog
          rw [if_pos hk]
        · rw [decide_eq_false hk]
          have hlen : (Vs.map fun k => ((Sum.inl k : Key), V.bl true)).length < sizeLine := by
            rw [List.length_map]
            show Vs.length < 2 ^ 24
            omega
          refine iteF ⟨_, rfl, _, rfl, a, _, 0, _, rfl, rfl, SqT.of ha2, rfl, t, _, rfl, DPut.k (k := Sum.inl k) ht2 hlen, rfl, same_new e2 h1, ?_⟩
          rw [upd_same, putK_new _ (used_none hk)]
          unfold usedD tog
          rw [if_neg hk, List.map_append]
          rfl
end
end K32
set_option maxRecDepth 100000
namespace K32
open PySem L2 L2.Wy
open PyProof.Rows (boot_list boot_int boot_bool boot_tuple boot_str boot_dict boot_all)
def TouchAt (H : Hp) (d : Addr) (nm : List Str) (ts : List Tie) : Prop := ∃ kvs, H d = some (.dK kvs) ∧ ∀ x ∈ nm, ∃ l, valV kvs (Sum.inr x) = some (.ref l) ∧ TiesAt H l (touch ts x)
theorem TouchAt.mono {H H' : Hp} {d : Addr} {nm : List Str} {ts : List Tie} (e : Same H H') (h : TouchAt H d nm ts) : TouchAt H' d nm ts := by
  obtain ⟨kvs, h1, h2⟩ := h
  exact ⟨kvs, e _ _ h1, fun x hx => by obtain ⟨l, a, b⟩ := h2 x hx; exact ⟨l, a, b.mono e⟩⟩
theorem cm_upd {H : Hp} {a : Addr} {o : HO} {kvs : List (Key × V)} {c : Cm Str} (ha : ∀ vs, H a ≠ some (.tup vs)) (h : Paired (CmV H) kvs c) : Paired (CmV (upd H a o)) kvs c := by
  refine Paired.imp' (fun kv q z => ⟨z.1, ?_⟩) h
  cases hq : q.2 with
  | none => have := z.2; rw [hq] at this; exact this
  | some s =>
    have := z.2
    rw [hq] at this
    obtain ⟨b, h1, h2⟩ := this
    exact ⟨b, h1, by rw [upd_ne (fun e => ha _ (by rw [← e]; exact h2))]; exact h2⟩
theorem look_cons (U : Int → Bool) (x : Str) (t : Tie) (r : List Tie) (s : Cm Str × List Str) : look U x (t :: r) s = match stp t x U with
    | some z => if z ∈ keys s.1 then look U x r s else look U x r (s.1 ++ [(z, some (t.1, x))], s.2 ++ [z])
    | none => look U x r s := by
  conv => lhs; unfold look
  cases stp t x U <;> rfl
theorem bfs_cons (ts : List Tie) (U : Int → Bool) (n : Nat) (c : Cm Str) (x : Str) (w : List Str) : bfs ts U (n + 1) (c, x :: w) = bfs ts U n (look U x (touch ts x) (c, w)) := rfl
theorem bfs_nil (ts : List Tie) (U : Int → Bool) (n : Nat) (c : Cm Str) : bfs ts U n (c, []) = c := by
  cases n <;> rfl
section
variable {P : Program} {w : World} {K : PySem.W.Frag} {mg : Str → Option Value} {base : Heap}
def sp_reached_from : Sp := fun vs H Q _ => ∃ (h : Option Str) (d u : Addr) (U : List Int) (nm : List Str) (ts : List Tie) (N : Nat), vs = [oS h, .ref d, .ref u] ∧ TouchAt H d nm ts ∧ H u = some (usedD U) ∧ Ends ts nm ∧ (∀ x, h = some x → x ∈ nm) ∧ nm.length ≤ N ∧ nm.length ≤ 1000 ∧ ts.length ≤ 1000 ∧
  ∀ cd H', Same H H' → H cd = none → CameAt H' cd (reach ts (inU U) N h) → Q (.ref cd) H'
abbrev s_reached_from : Stmt := top 15
theorem sc_reached_from : FnScope ["home", "touching", "used", "came", "waiting", "name", "tie", "nearby"] ["home", "touching", "used"] (defScope s_reached_from) := ⟨rfl, rfl, rfl, by decide +kernel, rfl, by decide +kernel, by decide +kernel⟩
theorem ok_reached_from {f : Addr} {fd : FuncData} (F : Fun K "reached_from" "reached_from" s_reached_from f fd) (T : TxtD mg) (D_step_over : Df P w K mg base 1 "step_over" ["tie", "name", "used"] sp_step_over) : FnOk P w K mg base CX0 2 f fd ["home", "touching", "used"] sp_reached_from := by
  refine F.ok sc_reached_from (fun vs H Q E h => ?_) (fun cdv A outer s H vs Q E hr h => ?_)
  · obtain ⟨h, d, u, U, nm, ts, N, rfl, _⟩ := h
    rfl
  · obtain ⟨h, d, u, U, nm, ts, N, rfl, hd, hu, E', hh, hN, hnm, hts, q⟩ := h
    have ND := sc_reached_from.nd
    refine ⟨_, (pss_cons (ps_if (pt_cmpR op_isN (pv 0) pe_non (nomark _))
    (pss_one (ps_ret pe_dnewK))
    pss_nil)
  (pss_cons (ps_set (i := 3) ND rfl (by first | exact Or.inl rfl | exact Or.inr rfl) (pe_disp (pps_cons (pv 0) pe_non pps_nil) rfl rfl (fun z => nomatch z) (by decide)))
  (pss_cons (ps_set (i := 4) ND rfl (by first | exact Or.inl rfl | exact Or.inr rfl) (pe_lstS (pa_cons (pv 0) pa_nil)))
  (pss_cons (ps_while PassesOwn.never (pt_cmpR op_gt (pe_callB (lenK K) rfl T.n_len boot_len (pa_cons (pv 4) pa_nil)) pe_int (nomark _))
    (pss_cons (ps_set (i := 5) ND rfl (by first | exact Or.inl rfl | exact Or.inr rfl) (bmK K PySem.F.plainAttrs_list PySem.F.slot_list_pop PySem.F.type_list_pop mt_popAt (pv 4) (pa_cons pe_int pa_nil)))
  (pss_one (ps_for PassesOwn.never rfl (pilK K (pe_dget (hu_of hr) (pv 1) (pv 5) (fun _ _ => rfl))) (pg_name (i := 6) ND rfl (by first | exact Or.inl rfl | exact Or.inr rfl))
    (pss_cons (ps_set (i := 7) ND rfl (by first | exact Or.inl rfl | exact Or.inr rfl) (pe_callD D_step_over (hr.mono (by decide)) rfl (pa_cons (pv 6) (pa_cons (pv 5) (pa_cons (pv 2) pa_nil)))))
  (pss_one (ps_ifJ (PW.pt (pw_and (pt_cmpR op_notN (pv 7) pe_non (nomark _)) (pw_and1 (pt_cmp (pc_dnotin (hu_of hr) (pv 7) (pv 3))))))
    (pss_cons (ps_dput (hu_of hr) (pv 3) (pv 7) (pe_tupS (pa_cons (pe_ix (ixtK K) (pv 6) pe_int (fun _ _ => rfl)) (pa_cons (pv 5) pa_nil))) rfl)
  (pss_one (ps_expr (bmK K PySem.F.plainAttrs_list PySem.F.slot_list_append PySem.F.type_list_append mt_append (pv 4) (pa_cons (pv 7) pa_nil)))))
    pss_nil)))))))
  (pss_one (ps_ret (pv 3))))))), ?_⟩
    cases h with
    | none =>
      refine ⟨_, rfl, rfl, _, rfl, iteT ?_⟩
      intro cd hcd
      exact q cd _ (same_upd (Same.refl _) hcd) hcd ⟨[], upd_same, .nil⟩
    | some h =>
      have hh := hh h rfl
      refine ⟨_, rfl, rfl, _, rfl, iteF ?_⟩
      intro cd hcd
      refine ⟨_, rfl, upd_same, [(Sum.inr h, .non)], rfl, (by show 1 ≤ 15; decide), ?_⟩
      have e0 : upd (upd H cd (.dK [])) cd (.dK (mergeK [] [(Sum.inr h, .non)])) = upd H cd (.dK [(Sum.inr h, .non)]) := by rw [upd_upd]; rfl
      rw [e0]
      have e1 : Same H (upd H cd (.dK [(Sum.inr h, .non)])) := same_upd (Same.refl _) hcd
      have hc1 : CameAt (upd H cd (.dK [(Sum.inr h, .non)])) cd [(h, none)] := ⟨_, upd_same, .cons ⟨rfl, rfl⟩ .nil⟩
      generalize upd H cd (.dK [(Sum.inr h, .non)]) = H1 at e1 hc1
      refine ⟨_, rfl, (by show 1 ≤ sizeLine; decide), fun wl H2 e2 hwl2 hwl => ?_⟩
      have hwl0 : H wl = none := e1.free hwl2
      have nwc : wl ≠ cd := fun z => by
        obtain ⟨kvs, hk, _⟩ := hc1
        rw [z, hk] at hwl2
        cases hwl2
      refine ⟨fun n σ H3 => ∃ c dn wt o5 o6 o7, σ = [some (.str h), some (.ref d), some (.ref u), some (.ref cd), some (.ref wl), o5, o6, o7] ∧ Same H H3 ∧ CameAt H3 cd c ∧ H3 wl = some (.lst (wt.map V.str)) ∧ Bf ts (inU U) h c dn wt ∧ nm.length ≤ n + dn.length ∧ bfs ts (inU U) n (c, wt) = reach ts (inU U) N (some h),
        ⟨N, [(h, none)], [], [h], none, none, none, rfl, e1.trans e2, hc1.mono e2, hwl, Bf.start .., by simpa using hN, rfl⟩, ?_⟩
      rintro n σ H3 ⟨c, dn, wt, o5, o6, o7, rfl, e3, hc3, hw3, B, hn, eN⟩
      have hlen := B.len E' hh
      refine ⟨_, rfl, wl, _, rfl, .inl (SqL.of hw3), _, _, rfl, rfl, _, rfl, ite2 (fun hc => ?_) (fun hc => ?_)⟩
      · have hc : 0 < wt.length := by have := of_decide_eq_true hc; rw [List.length_map] at this; omega
        obtain ⟨x, wt, rfl⟩ : ∃ x w', wt = x :: w' := by
          cases wt with
          | nil => exact absurd hc (by decide)
          | cons x w' => exact ⟨x, w', rfl⟩
        rw [List.length_cons] at hlen
        obtain ⟨n, rfl⟩ : ∃ n', n = n' + 1 := ⟨n - 1, by omega⟩
        rw [bfs_cons] at eN
        have xnm : x ∈ nm := B.came.names E' hh x (by rw [B.ks]; simp)
        refine ⟨fun σ' H' => ∃ n', n' < n + 1 ∧ ∃ c dn wt o5 o6 o7, σ' = [some (.str h), some (.ref d), some (.ref u), some (.ref cd), some (.ref wl), o5, o6, o7] ∧ Same H H' ∧ CameAt H' cd c ∧ H' wl = some (.lst (wt.map V.str)) ∧ Bf ts (inU U) h c dn wt ∧ nm.length ≤ n' + dn.length ∧ bfs ts (inU U) n' (c, wt) = reach ts (inU U) N (some h), fun σ' H' h => h, ?_⟩
        refine ⟨_, rfl, .inl ⟨rfl, _, SqL.of hw3⟩, wl, _, 0, 0, .str x, rfl, rfl, hw3, by decide, by decide, (by rw [List.map_cons, List.length_cons]; unfold seqIndex?; simp), rfl, ?_⟩
        have e4 : Same H (upd H3 wl (.lst (((x :: wt).map V.str).eraseIdx 0))) := same_new e3 hwl0
        have hw4 : upd H3 wl (.lst (((x :: wt).map V.str).eraseIdx 0)) wl = some (.lst (wt.map V.str)) := upd_same
        have hc4 : CameAt (upd H3 wl (.lst (((x :: wt).map V.str).eraseIdx 0))) cd c := by
          obtain ⟨kvs, hk1, hk2⟩ := hc3
          exact ⟨kvs, by rw [upd_ne nwc.symm]; exact hk1, cm_upd (fun vs z => by rw [hw3] at z; cases z) hk2⟩
        generalize upd H3 wl (.lst (((x :: wt).map V.str).eraseIdx 0)) = H4 at e4 hw4 hc4 ⊢
        obtain ⟨kv0, hd0, hall⟩ := hd.mono e4
        obtain ⟨tl, hv, xs, hx, hp⟩ := hall x xnm
        have hxl := Paired.length hp
        have htl : (touch ts x).length ≤ 1000 := Nat.le_trans (List.length_filter_le _ _) hts
        obtain ⟨_, _, hall0⟩ := id hd
        have hxH : H tl = some (.lst xs) := by
          obtain ⟨kv1, hd1, hall1⟩ := id hd
          have : kv1 = kv0 := by
            have := e4 _ _ hd1
            rw [hd0] at this
            injection this with this
            injection this with this
            exact this.symm
          subst this
          obtain ⟨l1, v1, xs1, hx1, hp1⟩ := hall1 x xnm
          rw [hv] at v1
          injection v1 with v1
          injection v1 with v1
          subst v1
          have := e4 _ _ hx1
          rw [hx] at this
          injection this with this
          injection this with this
          subst this
          exact hx1
        refine ⟨_, rfl, _, rfl, d, .ref tl, rfl, (by rw [← hv]; exact DGet.k (k := Sum.inr x) hd0), tl, rfl, ⟨_, SqL.of hx⟩, ?_⟩
        refine for_list (K := K) (xs := xs) (fun j σ H5 => ∃ c' w' o6 o7, σ = [some (.str h), some (.ref d), some (.ref u), some (.ref cd), some (.ref wl), some (.str x), o6, o7] ∧ Same H H5 ∧ (∀ (v : V) (t : Tie), TieAt H4 v t → TieAt H5 v t) ∧ CameAt H5 cd c' ∧ H5 wl = some (.lst (w'.map V.str)) ∧ c'.length ≤ 1000 + j ∧ w'.length ≤ 1000 + j ∧ look (inU U) x ((touch ts x).drop j) (c', w') = look (inU U) x (touch ts x) (c, wt))
          ⟨c, wt, _, _, rfl, e4, fun v t h => h, hc4, hw4, by omega, by omega, rfl⟩ (fun j σ H5 _ h => by obtain ⟨_, _, _, _, _, e5, _⟩ := h; exact SqL.of (e5 _ _ hxH)) ?_ ?_
        · rintro j v σ H5 ev ⟨c', w', o6', o7', rfl, e5, hk5, hc5, hw5, lc, lw, el⟩
          obtain ⟨t, et, htv⟩ := Paired.at hp ev
          have hj : j < 1000 := by
            have := (List.getElem?_eq_some_iff.mp et).1
            omega
          have dr : (touch ts x).drop j = t :: (touch ts x).drop (j + 1) := by
            obtain ⟨hi, e⟩ := List.getElem?_eq_some_iff.mp et
            rw [List.drop_eq_getElem_cons hi, e]
          rw [dr, look_cons] at el
          have ht5 := hk5 v t htv
          refine ⟨_, rfl, _, rfl, _, rfl, v, t, x, u, U, rfl, ht5, e5 _ _ hu, ?_⟩
          have stay : look (inU U) x ((touch ts x).drop (j + 1)) (c', w') = look (inU U) x (touch ts x) (c, wt) → ∀ o, ∃ c' w' o6 o7, ([some (.str h), some (.ref d), some (.ref u), some (.ref cd), some (.ref wl), some (.str x), some v, o] : St) = [some (.str h), some (.ref d), some (.ref u), some (.ref cd), some (.ref wl), some (.str x), o6, o7] ∧ Same H H5 ∧ (∀ (v : V) (t : Tie), TieAt H4 v t → TieAt H5 v t) ∧ CameAt H5 cd c' ∧ H5 wl = some (.lst (w'.map V.str)) ∧ c'.length ≤ 1000 + (j + 1) ∧ w'.length ≤ 1000 + (j + 1) ∧ look (inU U) x ((touch ts x).drop (j + 1)) (c', w') = look (inU U) x (touch ts x) (c, wt) :=
            fun el o => ⟨c', w', _, _, rfl, e5, hk5, hc5, hw5, by omega, by omega, el⟩
          refine ⟨_, fun _ _ h => h, ?_⟩
          cases hs : stp t x (inU U) with
          | none =>
            rw [hs] at el
            exact ⟨_, rfl, rfl, _, rfl, iteF (iteF (stay el _))⟩
          | some z =>
            rw [hs] at el
            have el : (if z ∈ keys c' then look (inU U) x ((touch ts x).drop (j + 1)) (c', w') else look (inU U) x ((touch ts x).drop (j + 1)) (c' ++ [(z, some (t.1, x))], w' ++ [z])) = look (inU U) x (touch ts x) (c, wt) := el
            refine ⟨_, rfl, rfl, _, rfl, iteT ?_⟩
            obtain ⟨kvs, hk1, hk2⟩ := id hc5
            refine ⟨_, rfl, _, rfl, cd, _, rfl, DGet.k (k := Sum.inr z) hk1, _, rfl, ?_⟩
            rw [came_val hk2]
            by_cases hz : z ∈ keys c'
            · rw [if_pos hz] at el
              rw [decide_eq_true hz]
              exact iteF (stay el _)
            · rw [if_neg hz] at el
              rw [decide_eq_false hz]
              obtain ⟨p, rfl, hp5⟩ := ht5
              refine iteT ⟨_, rfl, p, _, 0, _, rfl, rfl, SqT.of hp5, rfl, _, rfl, (by show 2 ≤ sizeLine; decide), fun tp H6 e6 h6 htp => ?_⟩
              have hk6 := e6 _ _ hk1
              have hkl : kvs.length = c'.length := Paired.length hk2
              have hlt : kvs.length < sizeLine := by
                rw [hkl]
                show c'.length < 2 ^ 24
                omega
              refine ⟨_, rfl, _, rfl, cd, _, rfl, DPut.k (k := Sum.inr z) hk6 hlt, ?_⟩
              have hnone : valV kvs (Sum.inr z) = none := by
                cases hvn : valV kvs (Sum.inr z) with
                | none => rfl
                | some v => have := came_val hk2 z; rw [hvn, decide_eq_false hz] at this; cases this
              rw [putK_new _ hnone]
              have hw7 : upd H6 cd (.dK (kvs ++ [(Sum.inr z, .ref tp)])) wl = some (.lst (w'.map V.str)) := by rw [upd_ne nwc]; exact e6 _ _ hw5
              refine ⟨_, rfl, .inl ⟨rfl, _, SqL.of hw7⟩, _, rfl, wl, _, _, rfl, rfl, hw7, by rw [List.length_map]; show w'.length < 2 ^ 24; omega, ?_⟩
              have tpc : tp ≠ cd := fun e => by rw [e, hk1] at h6; cases h6
              have hk7 : Paired (CmV (upd H6 cd (.dK (kvs ++ [(Sum.inr z, .ref tp)])))) (kvs ++ [(Sum.inr z, .ref tp)]) (c' ++ [(z, some (t.1, x))]) := by
                refine Paired.snoc' (cm_upd (fun vs e => by rw [hk6] at e; cases e) (Paired.imp' (fun kv q y => ⟨y.1, y.2.mono e6⟩) hk2)) ⟨rfl, tp, rfl, ?_⟩
                rw [upd_ne tpc]
                exact htp
              refine ⟨c' ++ [(z, some (t.1, x))], w' ++ [z], _, _, rfl, same_new (same_new (e5.trans e6) hcd) hwl0, fun v t hvt => ?_, ⟨_, ?_, cm_upd (fun vs e => by rw [hw7] at e; cases e) hk7⟩, ?_, ?_, ?_, el⟩
              · obtain ⟨b, h1, h2⟩ := hk5 v t hvt
                have h3 := e6 _ _ h2
                refine ⟨b, h1, ?_⟩
                rw [upd_ne (fun e => by rw [e, e6 _ _ hw5] at h3; cases h3), upd_ne (fun e => by rw [e, hk6] at h3; cases h3)]
                exact h3
              · rw [upd_ne nwc.symm, upd_same]
              · rw [upd_same, List.map_append]
                rfl
              · rw [List.length_append, List.length_singleton]; omega
              · rw [List.length_append, List.length_singleton]; omega
        · rintro σ H5 ⟨c', w', o6', o7', rfl, e5, hk5, hc5, hw5, lc, lw, el⟩
          rw [hxl, List.drop_length] at el
          have el : (c', w') = look (inU U) x (touch ts x) (c, wt) := el
          have B' := B.step
          rw [← el] at B' eN
          exact ⟨n, by omega, c', dn ++ [x], w', _, _, _, rfl, e5, hc5, hw5, B', by rw [List.length_append, List.length_singleton]; omega, eN⟩
      · have hc : wt = [] := by
          cases wt with
          | nil => rfl
          | cons x w' => exact absurd (decide_eq_true (by rw [List.length_map, List.length_cons]; omega)) hc
        subst hc
        rw [bfs_nil] at eN
        refine ⟨_, rfl, q cd H3 e3 hcd ?_⟩
        rw [← eN]
        exact hc3
end
end K32
set_option maxRecDepth 100000
namespace K32
open PySem L2 L2.Wy
open PyProof.Rows (boot_list boot_int boot_bool boot_tuple boot_str boot_dict boot_all)
def WayV (lo : Addr) (H : Hp) (v : V) (ks : List Int) : Prop := ∃ a, v = .ref a ∧ a ≠ lo ∧ H a = some (.lst (ks.map V.int))
def WaysAt (H : Hp) (lo : Addr) (wss : List (List Int)) : Prop := ∃ xs, H lo = some (.lst xs) ∧ Paired (WayV lo H) xs wss
theorem WaysAt.mono {H H' : Hp} {lo : Addr} {wss : List (List Int)} (e : Same H H') (h : WaysAt H lo wss) : WaysAt H' lo wss := by
  obtain ⟨xs, h1, h2⟩ := h
  exact ⟨xs, e _ _ h1, Paired.imp' (fun v ks ⟨a, x, y, z⟩ => ⟨a, x, y, e _ _ z⟩) h2⟩
structure Parts (ts : List Tie) (h g : Str) (N : Nat) : Prop where
  nd : Nums ts
  rk : ∃ rk : Str → Nat, (∀ t ∈ ts, rk t.2.1 < rk t.2.2.1) ∧ ∀ z, rk z < N
  few : N ≤ 1000
  many : ts.length ≤ 1000
section
variable {P : Program} {w : World} {K : PySem.W.Frag} {mg : Str → Option Value} {base : Heap}
def sp_parted_ways : Sp := fun vs H Q _ => ∃ (l : Addr) (ts : List Tie) (U : Int → Bool) (h g : Str) (m N : Nat), vs = [.ref l, .str h, .str g, .int m] ∧ TiesAt H l (ts.filter fun t => U t.1) ∧ Parts ts h g N ∧ Flow ts U h g m ∧ m ≤ 1000 ∧
  ∀ lo H', Same H H' → H lo = none → WaysAt H' lo (partF h g N m (ts.filter fun t => U t.1)) → Q (.ref lo) H'
abbrev s_parted_ways : Stmt := top 20
theorem sc_parted_ways : FnScope ["ties", "home", "listener", "many", "told", "left", "way"] ["ties", "home", "listener", "many"] (defScope s_parted_ways) := ⟨rfl, rfl, rfl, by decide +kernel, rfl, by decide +kernel, by decide +kernel⟩
theorem ok_parted_ways {f : Addr} {fd : FuncData} (F : Fun K "parted_ways" "parted_ways" s_parted_ways f fd) (T : TxtD mg) (D_one_way : Df P w K mg base 2 "one_way" ["ties", "home", "listener"] sp_one_way) : FnOk P w K mg base CX0 3 f fd ["ties", "home", "listener", "many"] sp_parted_ways := by
  refine F.ok sc_parted_ways (fun vs H Q E h => ?_) (fun cdv A outer s H vs Q E hr h => ?_)
  · obtain ⟨l, ts, U, h, g, m, N, rfl, _⟩ := h
    rfl
  · obtain ⟨l, ts, U, h, g, m, N, rfl, hl, PT, F0, hm, q⟩ := h
    have ND := sc_parted_ways.nd
    obtain ⟨rk, hr1, hr2⟩ := PT.rk
    refine ⟨_, (pss_cons (ps_set (i := 4) ND rfl (by first | exact Or.inl rfl | exact Or.inr rfl) (pe_lstS pa_nil))
  (pss_cons (ps_set (i := 5) ND rfl (by first | exact Or.inl rfl | exact Or.inr rfl) (pv 0))
  (pss_cons (ps_while PassesOwn.never (pt_cmpR op_lt (pe_callB (lenK K) rfl T.n_len boot_len (pa_cons (pv 4) pa_nil)) (pv 3) (nomark _))
    (pss_cons (ps_set (i := 6) ND rfl (by first | exact Or.inl rfl | exact Or.inr rfl) (pe_callD D_one_way (hr.mono (by decide)) rfl (pa_cons (pv 5) (pa_cons (pv 1) (pa_cons (pv 2) pa_nil)))))
  (pss_cons (ps_setComp (i := 5) ND rfl rfl rfl (compScope_of (nT := 1) (js := [6]) (N' := ["tie", "way"]) rfl rfl (by kernel_rfl)) (pilK K (pv 5))
    (fun _ _ _ _ _ => (pg_name (i := 0) (show List.Nodup (["tie", "way"] : List Str) by decide +kernel) rfl (by first | exact Or.inl rfl | exact Or.inr rfl)))
    (fun _ _ _ _ _ => (pif_one (pt_cmpR (notinK K) (pe_ix (ixtK K) (pv 0) pe_int (fun _ _ => rfl)) (pv 1) (by with_unfolding_all rfl))))
    (fun _ _ _ _ _ => (pv 0)))
  (pss_one (ps_expr (bmK K PySem.F.plainAttrs_list PySem.F.slot_list_append PySem.F.type_list_append mt_append (pv 4) (pa_cons (pv 6) pa_nil)))))))
  (pss_one (ps_ret (pv 4)))))), ?_⟩
    refine ⟨(by show 0 ≤ sizeLine; decide), fun lo H1 e1 h1 hlo => ?_⟩
    have nl : l ≠ lo := fun z => by obtain ⟨xs, hx, _⟩ := hl; rw [z, h1] at hx; cases hx
    refine ⟨_, rfl, ?_⟩
    refine ⟨fun n σ H2 => ∃ (lr : Addr) (Ui : Int → Bool) (dn : List (List Int)) (o : Option V), σ = [some (.ref l), some (.str h), some (.str g), some (.int m), some (.ref lo), some (.ref lr), o] ∧ Same H H2 ∧ lr ≠ lo ∧ TiesAt H2 lr (ts.filter fun t => Ui t.1) ∧ WaysAt H2 lo dn ∧ Flow ts Ui h g n ∧ dn.length + n = m ∧ partF h g N m (ts.filter fun t => U t.1) = dn ++ partF h g N n (ts.filter fun t => Ui t.1),
      ⟨m, l, U, [], none, rfl, e1, nl, hl.mono e1, ⟨_, hlo, .nil⟩, F0, by simp, rfl⟩, ?_⟩
    rintro n σ H2 ⟨lr, Ui, dn, o, rfl, e2, hnl, hl2, ⟨xs, hx2, hp2⟩, F2, hsum, eP⟩
    have hxl := Paired.length hp2
    refine ⟨_, rfl, lo, _, rfl, .inl (SqL.of hx2), _, rfl, _, _, rfl, rfl, _, rfl, ite2 (fun hc => ?_) (fun hc => ?_)⟩
    · have hc := of_decide_eq_true hc
      obtain ⟨n, rfl⟩ : ∃ n', n = n' + 1 := ⟨n - 1, by omega⟩
      have W := oneF_ok hr1 F2 (by omega) hr2 N h [] (.nil h) (by omega)
      rw [List.nil_append] at W
      have up := W.up (rk := rk) fun t ht => hr1 t (List.mem_filter.mp ht).1
      have hgN := hr2 g
      have few := PT.few
      have hz : (oneF (ts.filter fun t => Ui t.1) g N h).length ≤ 1000 := by omega
      refine ⟨fun σ' H' => ∃ n', n' < n + 1 ∧ ∃ (lr : Addr) (Ui : Int → Bool) (dn : List (List Int)) (o : Option V), σ' = [some (.ref l), some (.str h), some (.str g), some (.int m), some (.ref lo), some (.ref lr), o] ∧ Same H H' ∧ lr ≠ lo ∧ TiesAt H' lr (ts.filter fun t => Ui t.1) ∧ WaysAt H' lo dn ∧ Flow ts Ui h g n' ∧ dn.length + n' = m ∧ partF h g N m (ts.filter fun t => U t.1) = dn ++ partF h g N n' (ts.filter fun t => Ui t.1), fun σ' H' h => h, ?_⟩
      refine ⟨_, rfl, _, rfl, _, rfl, lr, _, h, g, N, rfl, hl2, W, hz, fun lw H3 e3 h3 hlw => ?_⟩
      have F3 := F2.without PT.nd W (nums_nodup PT.nd (fun t ht => (List.mem_filter.mp (W.sub t ht)).1) up.2.2)
      rw [show ((n + 1 : Nat) : Int) - 1 = (n : Int) by omega] at F3
      have eP2 : partF h g N (n + 1) (ts.filter fun t => Ui t.1) = nums (oneF (ts.filter fun t => Ui t.1) g N h) :: partF h g N n ((ts.filter fun t => Ui t.1).filter fun t => !decide (t.1 ∈ nums (oneF (ts.filter fun t => Ui t.1) g N h))) := rfl
      have ef : (ts.filter fun t => Ui t.1).filter (fun t => !decide (t.1 ∈ nums (oneF (ts.filter fun t => Ui t.1) g N h))) = ts.filter fun t => Wy.without Ui (nums (oneF (ts.filter fun t => Ui t.1) g N h)) t.1 := by
        rw [List.filter_filter]
        refine List.filter_congr fun t _ => ?_
        unfold Wy.without
        rw [Bool.and_comm]
      rw [eP2] at eP
      generalize nums (oneF (ts.filter fun t => Ui t.1) g N h) = ks at hlw F3 eP ef
      have lwo : lw ≠ lo := fun z => by rw [z, hx2] at h3; cases h3
      obtain ⟨ys, hy3, hpy⟩ := hl2.mono e3
      have hyl := Paired.length hpy
      have hyl2 : (ts.filter fun t => Ui t.1).length ≤ 1000 := Nat.le_trans (List.length_filter_le _ _) PT.many
      refine ⟨_, rfl, lr, rfl, ⟨_, SqL.of hy3⟩, compG_list (K := K) (fun i => !decide (((ts.filter fun t => Ui t.1).getD i (0, "", "", 0)).1 ∈ ks)) (fun i => ys.getD i .non) hy3 (by omega) (fun j x H4 ex e4 => ?_) (fun l4 H4 h4 e4 hl4 => ?_)⟩
      · obtain ⟨t, et, p, rfl, hpt⟩ := Paired.at hpy ex
        have eg : (ts.filter fun t => Ui t.1).getD j (0, "", "", 0) = t := by rw [List.getD_eq_getElem?_getD, et]; rfl
        have egx : ys.getD j .non = .ref p := by rw [List.getD_eq_getElem?_getD, ex]; rfl
        rw [eg, egx]
        refine ⟨_, rfl, p, _, 0, _, rfl, rfl, SqT.of (e4 _ _ hpt), rfl, _, rfl, lw, _, rfl, .inl (SqL.of (e4 _ _ hlw)), rfl, flat_ints ks, _, rfl, ?_⟩
        rw [if_pos rfl, inV_ints]
        cases hd : decide (t.1 ∈ ks) with
        | true => exact iteF ⟨rfl, Same.refl _⟩
        | false => exact iteT ⟨_, rfl, rfl, rfl, Same.refl _⟩
      · have hx4 := e4 _ _ (e3 _ _ hx2)
        have l4o : l4 ≠ lo := fun z => by rw [z, e3 _ _ hx2] at h4; cases h4
        have hk4 := Paired.imp' (fun v t ⟨a, ha, hb⟩ => (⟨a, ha, e4 _ _ hb⟩ : TieAt H4 v t)) (kept_rows hpy fun t => !decide (t.1 ∈ ks))
        rw [ef] at hk4 eP
        refine ⟨_, rfl, .inl ⟨rfl, _, SqL.of hx4⟩, _, rfl, lo, _, _, rfl, rfl, hx4, ?_, ?_⟩
        · rw [hxl]
          show dn.length < 2 ^ 24
          omega
        · refine ⟨n, by omega, l4, Wy.without Ui ks, dn ++ [ks], _, rfl, same_new (e2.trans (e3.trans e4)) h1, l4o, ⟨_, by rw [upd_ne l4o]; exact hl4, ?_⟩, ⟨_, upd_same, ?_⟩, F3, ?_, ?_⟩
          · refine Paired.imp' (fun v t ⟨a, ha, hb⟩ => ⟨a, ha, ?_⟩) hk4
            rw [upd_ne (fun z => by rw [z, hx4] at hb; cases hb)]
            exact hb
          · refine Paired.snoc' (Paired.imp' (fun v ks ⟨a, ha, hb, hc⟩ => ⟨a, ha, hb, ?_⟩) hp2) ⟨lw, rfl, lwo, ?_⟩
            · rw [upd_ne lwo]
              exact e4 _ _ hlw
            · rw [upd_ne hb]
              exact e4 _ _ (e3 _ _ hc)
          · rw [List.length_append, List.length_singleton]; omega
          · rw [eP]; simp
    · have hn : n = 0 := by
        cases n with
        | zero => rfl
        | succ n => exact absurd (decide_eq_true (by omega)) hc
      subst hn
      refine ⟨_, rfl, q lo H2 e2 h1 ?_⟩
      rw [eP, show partF h g N 0 (ts.filter fun t => Ui t.1) = [] from rfl, List.append_nil]
      exact ⟨xs, hx2, hp2⟩
end
end K32
set_option maxRecDepth 100000
namespace K32
open PySem L2 L2.Wy
open PyProof.Rows (boot_list boot_int boot_bool boot_tuple boot_str boot_dict boot_all)
def rowsK (nm : List Str) (as : List Addr) : List (Key × V) := (nm.zip as).map fun p => ((Sum.inr p.1 : Key), V.ref p.2)
theorem rows_val : ∀ (nm : List Str) (as : List Addr), nm.Nodup → as.Nodup → nm.length = as.length → ∃ LA : Str → Addr, (∀ x ∈ nm, valV (rowsK nm as) (Sum.inr x) = some (.ref (LA x)) ∧ LA x ∈ as) ∧ ∀ x ∈ nm, ∀ y ∈ nm, LA x = LA y → x = y
  | [], _, _, _, _ => ⟨fun _ => 0, (fun x hx => nomatch hx), fun x hx => nomatch hx⟩
  | x :: nm, a :: as, h1, h2, hl => by
    obtain ⟨n1, n2⟩ := List.nodup_cons.mp h1
    obtain ⟨a1, a2⟩ := List.nodup_cons.mp h2
    obtain ⟨LA, l1, l2⟩ := rows_val nm as n2 a2 (by simpa using hl)
    have ne : ∀ y ∈ nm, y ≠ x := fun y hy e => n1 (e ▸ hy)
    refine ⟨fun y => if y = x then a else LA y, fun y hy => ?_, fun y hy z hz e => ?_⟩
    · rcases List.mem_cons.mp hy with rfl | hy
      · simp only [if_pos rfl]
        exact ⟨valV_pos rfl, List.mem_cons_self ..⟩
      · simp only [if_neg (ne y hy)]
        refine ⟨?_, List.mem_cons_of_mem _ (l1 y hy).2⟩
        rw [show rowsK (x :: nm) (a :: as) = ((Sum.inr x : Key), V.ref a) :: rowsK nm as from rfl, valV_neg (fun z => ne y hy (Sum.inr.inj z).symm)]
        exact (l1 y hy).1
    · rcases List.mem_cons.mp hy with ey | hy
      · rcases List.mem_cons.mp hz with ez | hz
        · rw [ey, ez]
        · simp only [if_pos ey, if_neg (ne z hz)] at e
          exact absurd (e ▸ (l1 z hz).2) a1
      · rcases List.mem_cons.mp hz with ez | hz
        · simp only [if_pos ez, if_neg (ne y hy)] at e
          exact absurd (e ▸ (l1 y hy).2) a1
        · simp only [if_neg (ne y hy), if_neg (ne z hz)] at e
          exact l2 y hy z hz e
theorem rows_merge {nm : List Str} {as : List Addr} (h : nm.Nodup) (hl : nm.length ≤ as.length) : mergeK [] (rowsK nm as) = rowsK nm as := by
  have : ∀ (a b : List (Key × V)), ((a ++ b).map (·.1)).Nodup → mergeK a b = a ++ b := by
    intro a b
    induction b generalizing a with
    | nil => intro _; rw [List.append_nil]; rfl
    | cons k b ih =>
      intro h
      have hk : valV a k.1 = none := by
        unfold valV
        rw [List.find?_eq_none.mpr fun q hq z => ?_]
        · rfl
        · rw [List.map_append] at h
          exact (List.nodup_append.mp h).2.2 q.1 (List.mem_map_of_mem hq) k.1 (List.mem_map_of_mem (List.mem_cons_self ..)) (of_decide_eq_true z)
      show mergeK (putK a k.1 k.2) b = _
      rw [putK_new _ hk, ih _ (by simpa using h)]
      simp
  rw [this [] _ ?_]
  · rfl
  · rw [List.nil_append]
    unfold rowsK
    rw [List.map_map]
    have e : ((fun x : Key × V => x.1) ∘ fun p : Str × Addr => ((Sum.inr p.1 : Key), V.ref p.2)) = (fun x : Str => (Sum.inr x : Key)) ∘ (·.1) := rfl
    rw [e, ← List.map_map]
    have hs : ((nm.zip as).map (·.1)).Nodup := by
      rw [List.map_fst_zip hl]
      exact h
    exact List.Pairwise.map _ (fun a b hab e => hab (Sum.inr.inj e)) hs
theorem touch_snoc (ts : List Tie) (t : Tie) (x : Str) : touch (ts ++ [t]) x = touch ts x ++ (if t.2.1 = x ∨ t.2.2.1 = x then [t] else []) := by
  unfold touch
  rw [List.filter_append]
  congr 1
  by_cases h : t.2.1 = x ∨ t.2.2.1 = x
  · rw [if_pos h, List.filter_cons, if_pos (by simpa using h)]
    rfl
  · rw [if_neg h, List.filter_cons, if_neg (by simpa using h)]
    rfl
section
variable {P : Program} {w : World} {K : PySem.W.Frag} {mg : Str → Option Value} {base : Heap}
def sp_ties_by_post : Sp := fun vs H Q _ => ∃ (ln l : Addr) (nm : List Str) (ts : List Tie), vs = [.ref ln, .ref l] ∧ H ln = some (.lst (nm.map V.str)) ∧ TiesAt H l ts ∧ nm.Nodup ∧ nm.length ≤ 1000 ∧ ts.length ≤ 1000 ∧ Ends ts nm ∧ (∀ t ∈ ts, t.2.1 ≠ t.2.2.1) ∧
  ∀ d H', Same H H' → H d = none → TouchAt H' d nm ts → Q (.ref d) H'
abbrev s_ties_by_post : Stmt := top 13
theorem sc_ties_by_post : FnScope ["names", "ties", "touching", "tie"] ["names", "ties"] (defScope s_ties_by_post) := ⟨rfl, rfl, rfl, by decide +kernel, rfl, by decide +kernel, by decide +kernel⟩
theorem ok_ties_by_post {f : Addr} {fd : FuncData} (F : Fun K "ties_by_post" "ties_by_post" s_ties_by_post f fd) (T : TxtD mg) : FnOk P w K mg base CX0 1 f fd ["names", "ties"] sp_ties_by_post := by
  refine F.ok sc_ties_by_post (fun vs H Q E h => ?_) (fun cdv A outer s H vs Q E hr h => ?_)
  · obtain ⟨ln, l, nm, ts, rfl, _⟩ := h
    rfl
  · obtain ⟨ln, l, nm, ts, rfl, hln, ⟨xs, hx, hp⟩, hnd, hz, htz, hE, hne, q⟩ := h
    have ND := sc_ties_by_post.nd
    have hxl := Paired.length hp
    refine ⟨_, (pss_cons (ps_set (i := 2) ND rfl (by first | exact Or.inl rfl | exact Or.inr rfl) (pe_callTy (call_dict_pairs rfl) rfl T.n_dict boot_dict (pa_cons (pe_comp rfl (compScope_of (nT := 1) (js := []) (N' := ["name"]) rfl rfl (by kernel_rfl)) (pilK K (pv 0))
    (fun _ _ _ _ _ => (pg_name (i := 0) (show List.Nodup (["name"] : List Str) by decide +kernel) rfl (by first | exact Or.inl rfl | exact Or.inr rfl)))
    (fun _ _ _ _ _ => pif_nil)
    (fun _ _ _ _ _ => (pe_tupS (pa_cons (pv 0) (pa_cons (pe_lstS pa_nil) pa_nil))))) pa_nil)))
  (pss_cons (ps_for PassesOwn.never rfl (pilK K (pv 1)) (pg_name (i := 3) ND rfl (by first | exact Or.inl rfl | exact Or.inr rfl))
    (pss_cons (ps_expr (bmK K PySem.F.plainAttrs_list PySem.F.slot_list_append PySem.F.type_list_append mt_append (pe_dget (hu_of hr) (pv 2) (pe_ix (ixtK K) (pv 3) pe_int (fun _ _ => rfl)) (fun _ _ => rfl)) (pa_cons (pv 3) pa_nil)))
  (pss_one (ps_expr (bmK K PySem.F.plainAttrs_list PySem.F.slot_list_append PySem.F.type_list_append mt_append (pe_dget (hu_of hr) (pv 2) (pe_ix (ixtK K) (pv 3) pe_int (fun _ _ => rfl)) (fun _ _ => rfl)) (pa_cons (pv 3) pa_nil))))))
  (pss_one (ps_ret (pv 2))))), ?_⟩
    refine ⟨_, rfl, ln, rfl, ⟨_, SqL.of hln⟩, comp_list (K := K) (xs := nm.map V.str) (fun lc i H1 => H lc = none ∧ Same H H1 ∧ ∃ as : List Addr, as.length = i ∧ as.Nodup ∧ (∀ a ∈ as, H1 a = some (.lst []) ∧ H a = none ∧ a ≠ lc) ∧ ∃ vs, H1 lc = some (.lst vs) ∧ Paired (fun v (kv : Key × V) => ∃ t, v = .ref t ∧ H1 t = some (.tup [kV kv.1, kv.2])) vs (rowsK (nm.take i) as))
      (fun lc hlc => ⟨hlc, same_upd (Same.refl _) hlc, [], rfl, List.nodup_nil, (fun a ha => nomatch ha), [], upd_same, .nil⟩) (fun lc i H1 _ h => SqL.of (h.2.1 _ _ hln)) (fun lc i v H1 ev h => ?_) (fun lc H1 h => ?_)⟩
    · obtain ⟨hlc, e1, as, hal, han, has, vs, hvs, hpv⟩ := h
      obtain ⟨x, ex, rfl⟩ : ∃ x, nm[i]? = some x ∧ v = .str x := by
        rw [List.getElem?_map] at ev
        cases hm : nm[i]? with
        | none => rw [hm] at ev; cases ev
        | some m => rw [hm] at ev; exact ⟨m, rfl, by simpa using ev.symm⟩
      have hi : i < nm.length := (List.getElem?_eq_some_iff.mp ex).1
      dsimp only [tYes]
      rw [if_pos rfl]
      refine ⟨_, rfl, (by show 0 ≤ sizeLine; decide), fun a H2 e2 h2 ha => ⟨(by show 2 ≤ sizeLine; decide), fun t H3 e3 h3 ht => ?_⟩⟩
      have hvl := Paired.length hpv
      have hrl : (rowsK (nm.take i) as).length = i := by
        unfold rowsK
        rw [List.length_map, List.length_zip, List.length_take, hal]
        omega
      have alc : a ≠ lc := fun z => by rw [z, hvs] at h2; cases h2
      have tlc : t ≠ lc := fun z => by rw [z, e2 _ _ hvs] at h3; cases h3
      refine ⟨vs, e3 _ _ (e2 _ _ hvs), by rw [hvl, hrl]; show i < 2 ^ 24; omega, hlc, same_new (e1.trans (e2.trans e3)) hlc, as ++ [a], by rw [List.length_append, hal]; rfl, ?_, fun b hb => ?_, vs ++ [.ref t], upd_same, ?_⟩
      · refine List.nodup_append.mpr ⟨han, by simp, fun b hb b' hb' e => ?_⟩
        rw [List.mem_singleton.mp hb'] at e
        rw [e] at hb
        have := (has a hb).1
        rw [h2] at this
        cases this
      · rcases List.mem_append.mp hb with hb | hb
        · obtain ⟨b1, b2, b3⟩ := has b hb
          exact ⟨by rw [upd_ne b3]; exact e3 _ _ (e2 _ _ b1), b2, b3⟩
        · rw [List.mem_singleton.mp hb]
          exact ⟨by rw [upd_ne alc]; exact e3 _ _ ha, e1.free h2, alc⟩
      · have tk : nm.take (i + 1) = nm.take i ++ [x] := by rw [List.take_add_one, ex]; rfl
        have er : rowsK (nm.take (i + 1)) (as ++ [a]) = rowsK (nm.take i) as ++ [(Sum.inr x, .ref a)] := by
          unfold rowsK
          rw [tk, List.zip_append (by rw [List.length_take, hal]; omega), List.map_append]
          rfl
        rw [er]
        refine Paired.snoc' (Paired.imp' (fun v kv ⟨t', e', ht'⟩ => ⟨t', e', ?_⟩) hpv) ⟨t, rfl, by rw [upd_ne tlc]; exact ht⟩
        have := e3 _ _ (e2 _ _ ht')
        rw [upd_ne (fun z => by rw [z, e3 _ _ (e2 _ _ hvs)] at this; cases this)]
        exact this
    · obtain ⟨hlc, e1, as, hal, han, has, vs, hvs, hpv⟩ := h
      rw [List.length_map] at hal hpv
      rw [List.take_length] at hpv
      have hrl : (rowsK nm as).length ≤ 1000 := by
        unfold rowsK
        rw [List.length_map, List.length_zip, hal]
        omega
      refine ⟨lc, _, rfl, ⟨vs, hvs, hpv⟩, hrl, fun d H2 e2 h2 hd => ?_⟩
      rw [rows_merge hnd (by omega)] at hd
      obtain ⟨LA, la1, la2⟩ := rows_val nm as hnd han hal.symm
      generalize rowsK nm as = kvs at la1 hd
      have e02 := e1.trans e2
      have dN : ∀ x ∈ nm, LA x ≠ d := fun x hx z => by
        have := (has _ (la1 x hx).2).1
        rw [z, h2] at this
        cases this
      have lN : ∀ x ∈ nm, H (LA x) = none := fun x hx => (has _ (la1 x hx).2).2.1
      refine ⟨_, rfl, l, rfl, ⟨_, SqL.of (e02 _ _ hx)⟩, ?_⟩
      refine for_list (K := K) (xs := xs) (fun j σ H3 => (∃ o, σ = [some (.ref ln), some (.ref l), some (.ref d), o]) ∧ Same H H3 ∧ H3 d = some (.dK kvs) ∧ ∀ x ∈ nm, TiesAt H3 (LA x) (touch (ts.take j) x))
        ⟨⟨_, rfl⟩, e02, hd, fun x hx => ⟨[], e2 _ _ (has _ (la1 x hx).2).1, .nil⟩⟩ (fun j σ H3 _ h => SqL.of (h.2.1 _ _ hx)) ?_ ?_
      · rintro j v σ H3 ev ⟨⟨o, rfl⟩, e3, hd3, hT⟩
        obtain ⟨t, et, p, rfl, hpt⟩ := Paired.at hp ev
        have htm : t ∈ ts := List.mem_of_getElem? et
        obtain ⟨m1, m2⟩ := hE t htm
        have tk : ts.take (j + 1) = ts.take j ++ [t] := by rw [List.take_add_one, et]; rfl
        have n12 : LA t.2.1 ≠ LA t.2.2.1 := fun z => hne t htm (la2 _ m1 _ m2 z)
        have hp3 := e3 _ _ hpt
        obtain ⟨ys, hy, hpy⟩ := hT _ m1
        obtain ⟨zs, hz3, hpz⟩ := hT _ m2
        have hyl : ys.length ≤ 1000 := by
          rw [Paired.length hpy]
          exact Nat.le_trans (List.length_filter_le _ _) (Nat.le_trans (by rw [List.length_take]; omega) htz)
        have hzl : zs.length ≤ 1000 := by
          rw [Paired.length hpz]
          exact Nat.le_trans (List.length_filter_le _ _) (Nat.le_trans (by rw [List.length_take]; omega) htz)
        refine ⟨_, rfl, _, rfl, p, _, 1, _, rfl, rfl, SqT.of hp3, rfl, d, .ref (LA t.2.1), rfl, (by rw [← (la1 _ m1).1]; exact DGet.k (k := Sum.inr t.2.1) hd3), .inl ⟨rfl, _, SqL.of hy⟩, _, rfl, LA t.2.1, _, _, rfl, rfl, hy, by show ys.length < 2 ^ 24; omega, ?_⟩
        have e4 : Same H (upd H3 (LA t.2.1) (.lst (ys ++ [.ref p]))) := same_new e3 (lN _ m1)
        have hd4 : upd H3 (LA t.2.1) (.lst (ys ++ [.ref p])) d = some (.dK kvs) := by rw [upd_ne (dN _ m1).symm]; exact hd3
        have hz4 : upd H3 (LA t.2.1) (.lst (ys ++ [.ref p])) (LA t.2.2.1) = some (.lst zs) := by rw [upd_ne n12.symm]; exact hz3
        have hp4 := e4 _ _ hpt
        refine ⟨_, rfl, _, rfl, p, _, 2, _, rfl, rfl, SqT.of hp4, rfl, d, .ref (LA t.2.2.1), rfl, (by rw [← (la1 _ m2).1]; exact DGet.k (k := Sum.inr t.2.2.1) hd4), .inl ⟨rfl, _, SqL.of hz4⟩, _, rfl, LA t.2.2.1, _, _, rfl, rfl, hz4, by show zs.length < 2 ^ 24; omega, ?_⟩
        have keep : ∀ {v : V} {u : Tie}, TieAt H3 v u → TieAt (upd (upd H3 (LA t.2.1) (.lst (ys ++ [.ref p]))) (LA t.2.2.1) (.lst (zs ++ [.ref p]))) v u := fun {v u} ⟨b, h1, h2⟩ => ⟨b, h1, by
          rw [upd_ne (fun z => by rw [z, hz3] at h2; cases h2), upd_ne (fun z => by rw [z, hy] at h2; cases h2)]
          exact h2⟩
        refine ⟨⟨_, rfl⟩, same_new e4 (lN _ m2), by rw [upd_ne (dN _ m2).symm]; exact hd4, fun x hx => ?_⟩
        rw [tk, touch_snoc]
        by_cases h1 : t.2.1 = x
        · rw [if_pos (.inl h1)]
          subst h1
          refine ⟨ys ++ [.ref p], by rw [upd_ne n12, upd_same], ?_⟩
          exact Paired.snoc' (Paired.imp' (fun _ _ z => keep z) hpy) (keep ⟨p, rfl, hp3⟩)
        · by_cases h2 : t.2.2.1 = x
          · rw [if_pos (.inr h2)]
            subst h2
            refine ⟨zs ++ [.ref p], upd_same, ?_⟩
            exact Paired.snoc' (Paired.imp' (fun _ _ z => keep z) hpz) (keep ⟨p, rfl, hp3⟩)
          · rw [if_neg (by rintro (z | z); exact h1 z; exact h2 z), List.append_nil]
            obtain ⟨us, hu, hpu⟩ := hT x hx
            refine ⟨us, ?_, Paired.imp' (fun _ _ z => keep z) hpu⟩
            rw [upd_ne (fun z => h2 (la2 _ hx _ m2 z).symm), upd_ne (fun z => h1 (la2 _ hx _ m1 z).symm)]
            exact hu
      · rintro σ H3 ⟨⟨o, rfl⟩, e3, hd3, hT⟩
        rw [hxl, List.take_length] at hT
        exact ⟨_, rfl, q d H3 e3 (e1.free h2) ⟨kvs, hd3, fun x hx => ⟨LA x, (la1 x hx).1, hT x hx⟩⟩⟩
end
end K32
set_option maxRecDepth 100000
namespace K32
open PySem L2 L2.Wy
open PyProof.Rows (boot_list boot_int boot_bool boot_tuple boot_str boot_dict boot_all)
theorem inV_strs (x : Str) : ∀ zs : List Str, inV (.str x) (zs.map V.str) = decide (x ∈ zs)
  | [] => by simp [inV]
  | z :: zs => by
    have ih := inV_strs x zs
    unfold inV at ih ⊢
    rw [List.map_cons, List.any_cons, ih]
    have : eqV (V.str x) (V.str z) = (x == z) := rfl
    rw [Bool.eq_iff_iff]
    simp [eqV]
    exact ⟨fun h => h.imp Eq.symm id, fun h => h.imp Eq.symm id⟩
theorem flat_strs (zs : List Str) : (zs.map V.str).all flatV = true := by
  rw [List.all_map, List.all_eq_true]
  intro z _
  rfl
theorem FunD.ok {P : Program} {w : World} {K : PySem.W.Frag} {mg : Str → Option Value} {base : Heap} {x qual : Str} {st : Stmt} {f : Addr} {fd : FuncData} {N ps : List Str} {k : Nat} {sp : Sp} (F : FunD K x qual st f fd) (S : FnScope N ps (defScope st)) (len : ∀ vs H Q E, sp vs H Q E → vs.length = ps.length)
    (hbody : ∀ (cdv : Value) (A : Around) (outer : List Env) (s : Shared) (H : Hp) (vs : List V) (Q : VK) (E : XK), Room k (A.deeper (PyProof.Rows.envOfC qual (defScope st) s.heap.objs.size f cdv)) → sp vs H Q E →
      ∃ t, PSs (cxOf CX0 P w K mg base N qual (defScope st) f cdv A outer s H E).nox (defBody st) t ∧ t { nx := fun _ H' => Q .non H', rt := Q } (L2.start N vs) H) : FnOk P w K mg base CX0 (k + 1) f fd ps sp := by
  obtain ⟨oc, od, dV, kV, doc, pm, an, cdv, ct, osl, rfl, lk, hcd⟩ := F.ex
  refine fn_of lk hcd S len fun A outer s H vs Q E hr hsp => ?_
  obtain ⟨t, h, q⟩ := hbody cdv A outer s H vs Q E hr hsp
  exact ⟨t, h.nox, q⟩
theorem useF_len (c : Cm Str) : ∀ (n : Nat) (U : List Int) (s : Option (Int × Str)), (useF c n U s).length ≤ U.length + n
  | 0, U, s => Nat.le_refl _
  | n + 1, U, none => Nat.le_add_right _ _
  | n + 1, U, some (k, x) => by
    rw [useF_some]
    have := useF_len c n (tog U k) (stepOf c x)
    have := tog_len U k
    omega
theorem flow0 (ts : List Tie) (h g : Str) : Flow ts (inU []) h g ((0 : Nat) : Int) := by
  have e : inU [] = fun _ => false := by
    funext k
    simp [inU]
  rw [e]
  exact Flow.none ts h g
structure WOk (S : NS) (fo : Option (List Int)) (h g : Str) (N : Nat) : Prop where
  parts : Parts (stand S.ties fo) h g N
  ends : Ends (stand S.ties fo) S.names
  nn : S.names.Nodup
  hN : S.names.length ≤ N
  hh : h ∈ S.names
  home : homeV S.home = .str h
  gl : g ∈ S.lis
  tl : S.ties.length ≤ 1000
  pl : S.posts.length ≤ 1000
def WaysV (H : Hp) (v : V) : Sum (List Int) (List (List Int)) → Prop
  | .inl ks => ∃ tp lo, v = .ref tp ∧ H tp = some (.tup [.str "cut", .ref lo]) ∧ H lo = some (.lst (ks.map V.int))
  | .inr wss => ∃ tp lo, v = .ref tp ∧ H tp = some (.tup [.str "ways", .ref lo]) ∧ WaysAt H lo wss
def waysR (ts : List Tie) (h g : Str) (N m : Nat) : Sum (List Int) (List (List Int)) := match waysF ts (some h) g N m [] with
  | .inl ks => .inl ks
  | .inr U => .inr (partF h g N m (ts.filter fun t => inU U t.1))
section
variable {P : Program} {w : World} {K : PySem.W.Frag} {mg : Str → Option Value} {base : Heap}
def sp_ways (c : Cl) : Sp := fun vs H Q _ => ∃ (n dp dt : Addr) (S : NS) (h g : Str) (m N : Nat) (fv : V) (fo : Option (List Int)), vs = [.ref n, .str g, .int m, fv] ∧ NetAt c H n dp dt S ∧ FallAt H fv fo ∧ WOk S fo h g N ∧ m ≤ 1000 ∧
  ∀ v H', Same H H' → WaysV H' v (waysR (stand S.ties fo) h g N m) → Q v H'
abbrev s_ways : Stmt := top 21
theorem sc_ways : FnScope ["net", "listener", "many", "fallen", "home", "ties", "touching", "used", "turn", "came"] ["net", "listener", "many", "fallen"] (defScope s_ways) := ⟨rfl, rfl, rfl, by decide +kernel, rfl, by decide +kernel, by decide +kernel⟩
theorem ok_ways {c : Cl} {f : Addr} {fd : FuncData} (F : FunD K "ways" "ways" s_ways f fd) (T : TxtD mg) (D_Net_listeners : Dm P w K mg base 2 c.net "listeners" ["self"] (sp_listeners c)) (D_Net_home : Dm P w K mg base 2 c.net "home" ["self"] (sp_home c)) (D_Net_names : Dm P w K mg base 1 c.net "names" ["self"] (sp_names c))
    (D_standing_ties : Df P w K mg base 2 "standing_ties" ["net", "fallen"] (sp_standing_ties c)) (D_ties_by_post : Df P w K mg base 1 "ties_by_post" ["names", "ties"] sp_ties_by_post) (D_reached_from : Df P w K mg base 2 "reached_from" ["home", "touching", "used"] sp_reached_from)
    (D_used_with : Df P w K mg base 1 "used_with" ["used", "came", "listener"] sp_used_with) (D_ties_between : Df P w K mg base 1 "ties_between" ["ties", "came"] sp_ties_between) (D_parted_ways : Df P w K mg base 3 "parted_ways" ["ties", "home", "listener", "many"] sp_parted_ways) :
    FnOk P w K mg base CX0 4 f fd ["net", "listener", "many", "fallen"] (sp_ways c) := by
  refine FunD.ok F sc_ways (fun vs H Q E h => ?_) (fun cdv A outer s H vs Q E hr h => ?_)
  · obtain ⟨n, dp, dt, S, h, g, m, N, fv, fo, rfl, _⟩ := h
    rfl
  · obtain ⟨n, dp, dt, S, h, g, m, N, fv, fo, rfl, NA, hf, O, hm, q⟩ := h
    have ND := sc_ways.nd
    obtain ⟨dx, h1⟩ := id NA.ins
    have PT := O.parts
    have few := PT.few
    obtain ⟨rk, hr1, hr2⟩ := PT.rk
    have fall : ∀ {H'}, Same H H' → FallAt H' fv fo := fun {H'} e => by
      cases fo with
      | none => exact hf
      | some fs => obtain ⟨l, a, b⟩ := hf; exact ⟨l, a, e _ _ b⟩
    refine ⟨_, (pss_cons (ps_if (pt_cmpR (notinK K) (pv 1) (pe_meth0D (pv 0) D_Net_listeners (hr.mono (by decide))) (by with_unfolding_all rfl))
    (pss_one ps_never)
    pss_nil)
  (pss_cons (ps_set (i := 4) ND rfl (by first | exact Or.inl rfl | exact Or.inr rfl) (pe_meth0D (pv 0) D_Net_home (hr.mono (by decide))))
  (pss_cons (ps_set (i := 5) ND rfl (by first | exact Or.inl rfl | exact Or.inr rfl) (pe_callD D_standing_ties (hr.mono (by decide)) rfl (pa_cons (pv 0) (pa_cons (pv 3) pa_nil))))
  (pss_cons (ps_set (i := 6) ND rfl (by first | exact Or.inl rfl | exact Or.inr rfl) (pe_callD D_ties_by_post (hr.mono (by decide)) rfl (pa_cons (pe_meth0D (pv 0) D_Net_names (hr.mono (by decide))) (pa_cons (pv 5) pa_nil))))
  (pss_cons (ps_set (i := 7) ND rfl (by first | exact Or.inl rfl | exact Or.inr rfl) pe_dnewK)
  (pss_cons (ps_for PassesOwn.never rfl (pi_range1 rfl T.n_range (pa_cons (pv 2) pa_nil)) (pg_name (i := 8) ND rfl (by first | exact Or.inl rfl | exact Or.inr rfl))
    (pss_cons (ps_set (i := 9) ND rfl (by first | exact Or.inl rfl | exact Or.inr rfl) (pe_callD D_reached_from (hr.mono (by decide)) rfl (pa_cons (pv 4) (pa_cons (pv 6) (pa_cons (pv 7) pa_nil)))))
  (pss_cons (ps_if (pt_cmp (pc_dnotin (hu_of hr) (pv 1) (pv 9)))
    (pss_one (ps_ret (pe_tupS (pa_cons pe_str (pa_cons (pe_callD D_ties_between (hr.mono (by decide)) rfl (pa_cons (pv 5) (pa_cons (pv 9) pa_nil))) pa_nil)))))
    pss_nil)
  (pss_one (ps_set (i := 7) ND rfl (by first | exact Or.inl rfl | exact Or.inr rfl) (pe_callD D_used_with (hr.mono (by decide)) rfl (pa_cons (pv 7) (pa_cons (pv 9) (pa_cons (pv 1) pa_nil)))))))))
  (pss_one (ps_ret (pe_tupS (pa_cons pe_str (pa_cons (pe_callD D_parted_ways (hr.mono (by decide)) rfl (pa_cons (pe_comp rfl (compScope_of (nT := 1) (js := [7]) (N' := ["tie", "used"]) rfl rfl (by kernel_rfl)) (pilK K (pv 5))
    (fun _ _ _ _ _ => (pg_name (i := 0) (show List.Nodup (["tie", "used"] : List Str) by decide +kernel) rfl (by first | exact Or.inl rfl | exact Or.inr rfl)))
    (fun _ _ _ _ _ => (pif_one (pt_cmp (pc_din (hu_of hr) (pe_ix (ixtK K) (pv 0) pe_int (fun _ _ => rfl)) (pv 1)))))
    (fun _ _ _ _ _ => (pv 0))) (pa_cons (pv 4) (pa_cons (pv 1) (pa_cons (pv 2) pa_nil))))) pa_nil))))))))))), ?_⟩
    refine ⟨_, rfl, _, rfl, n, dx, _, rfl, h1, rfl, n, dp, dt, S, rfl, NA, O.pl, fun l1 H1 e1 h01 hl1 => ⟨l1, _, rfl, .inl (SqL.of hl1), rfl, flat_strs _, _, rfl, ?_⟩⟩
    rw [if_pos rfl, inV_strs, decide_eq_true O.gl]
    refine iteF ?_
    have N1 := NA.mono e1
    refine ⟨_, rfl, n, dx, _, rfl, e1 _ _ h1, rfl, n, dp, dt, S, rfl, N1, ?_⟩
    rw [O.home]
    refine ⟨_, rfl, _, rfl, n, dp, dt, S, fv, fo, rfl, N1, O.tl, fall e1, fun lt H2 e2 h02 hlt => ?_⟩
    have hq : stand S.ties fo = stand S.ties fo := rfl
    generalize hts : stand S.ties fo = ts at PT hr1 hlt q
    have Es : Ends ts S.names := hts ▸ O.ends
    have e12 := e1.trans e2
    refine ⟨_, rfl, n, dx, _, rfl, e12 _ _ h1, rfl, n, dp, dt, S, rfl, NA.mono e12, fun ln H3 e3 h03 hln => ?_⟩
    have hpl : S.names.length ≤ 1000 := Nat.le_trans O.hN few
    refine ⟨_, rfl, ln, lt, S.names, ts, rfl, hln, hlt.mono e3, O.nn, hpl, PT.many, Es, fun t ht z => by have := hr1 t ht; rw [z] at this; omega, fun td H4 e4 h04 htd => ?_⟩
    have e14 := e12.trans (e3.trans e4)
    have hlt4 := hlt.mono (e3.trans e4)
    intro u hu0
    have eu : Same H4 (upd H4 u (.dK [])) := same_upd (Same.refl _) hu0
    have huD : upd H4 u (.dK []) u = some (usedD []) := upd_same
    generalize upd H4 u (.dK []) = H5 at eu huD
    refine ⟨_, rfl, (m : Int), rfl, by omega, by omega, ?_⟩
    rw [Int.toNat_natCast]
    refine for_range (lo := 0) (n := m) (fun i σ H' => ∃ (ui : Addr) (Ui : List Int) (o8 o9 : Option V), σ = [some (.ref n), some (.str g), some (.int m), some fv, some (.str h), some (.ref lt), some (.ref td), some (.ref ui), o8, o9] ∧ Same H4 H' ∧ H' ui = some (usedD Ui) ∧ Ui.Nodup ∧ Ui.length ≤ i * N ∧ Flow ts (inU Ui) h g i ∧ i ≤ m ∧ waysF ts (some h) g N m [] = waysF ts (some h) g N (m - i) Ui)
      ⟨u, [], none, none, rfl, eu, huD, List.nodup_nil, Nat.zero_le _, flow0 ts h g, Nat.zero_le _, rfl⟩ ?_ ?_
    · rintro i σ H6 hi ⟨ui, Ui, o8, o9, rfl, e6, hu6, hnd, hul, Fi, him, eW⟩
      have htd6 := htd.mono e6
      have hlt6 := hlt4.mono e6
      refine ⟨_, rfl, _, rfl, _, rfl, some h, td, ui, Ui, S.names, ts, N, rfl, htd6, hu6, Es, fun x hx => by cases hx; exact O.hh, O.hN, hpl, PT.many, fun cd H7 e7 h7 hcd => ?_⟩
      rw [show m - i = m - (i + 1) + 1 by omega, waysF_succ] at eW
      have R := reach_ok (ts := ts) (U := inU Ui) Es O.hh O.hN
      generalize reach ts (inU Ui) N (some h) = cc at hcd eW R
      have ccl : cc.length ≤ N := by
        have := sub_len R.came.nd (R.came.names Es O.hh)
        have e : (keys cc).length = cc.length := List.length_map _
        have := O.hN
        omega
      obtain ⟨kvs, hk1, hk2⟩ := id hcd
      refine ⟨_, rfl, _, rfl, cd, _, rfl, DGet.k (k := Sum.inr g) hk1, _, rfl, ?_⟩
      rw [came_val hk2]
      by_cases hg : g ∈ keys cc
      · rw [if_pos hg] at eW
        rw [decide_eq_true hg]
        have hUl : i * N ≤ 1000 * 1000 := Nat.mul_le_mul (by omega) few
        refine iteF ⟨_, rfl, _, rfl, _, rfl, ui, cd, Ui, cc, ts, h, g, N, rfl, e7 _ _ hu6, hcd, R.came, PT.nd, hg, hnd, ccl, by omega, by omega, fun un H8 e8 h8 hun => ?_⟩
        obtain ⟨F', hnd'⟩ := useF_flow PT.nd R.came Fi hg hnd ccl
        refine ⟨un, _, _, _, rfl, e6.trans (e7.trans e8), hun, hnd', ?_, ?_, by omega, eW⟩
        · have := useF_len cc N Ui (stepOf cc g)
          rw [Nat.succ_mul]
          omega
        · rw [show ((i + 1 : Nat) : Int) = (i : Int) + 1 by omega]
          exact F'
      · rw [if_neg hg] at eW
        rw [decide_eq_false hg]
        refine iteT ⟨_, rfl, _, rfl, lt, cd, ts, cc, rfl, hlt6.mono e7, PT.many, hcd, fun lo H8 e8 h8 hlo => ⟨(by show 2 ≤ sizeLine; decide), fun tp H9 e9 h9 htp => q (.ref tp) H9 (e14.trans (e6.trans (e7.trans (e8.trans e9)))) ?_⟩⟩
        unfold waysR
        rw [eW]
        exact ⟨tp, lo, rfl, htp, e9 _ _ hlo⟩
    · rintro σ H6 ⟨ui, Ui, o8, o9, rfl, e6, hu6, hnd, hul, Fi, him, eW⟩
      rw [Nat.sub_self] at eW
      have eW : waysF ts (some h) g N m [] = .inr Ui := eW
      obtain ⟨ys, hy, hpy⟩ := hlt4.mono e6
      have hyl := Paired.length hpy
      have many := PT.many
      refine ⟨_, rfl, lt, rfl, ⟨_, SqL.of hy⟩, compG_list (K := K) (fun i => inU Ui (ts.getD i (0, "", "", 0)).1) (fun i => ys.getD i .non) hy (by omega) (fun j x H7 ex e7 => ?_) (fun l7 H7 h7 e7 hl7 => ?_)⟩
      · obtain ⟨t, et, p, rfl, hpt⟩ := Paired.at hpy ex
        have eg : ts.getD j (0, "", "", 0) = t := by rw [List.getD_eq_getElem?_getD, et]; rfl
        have egx : ys.getD j .non = .ref p := by rw [List.getD_eq_getElem?_getD, ex]; rfl
        rw [eg, egx]
        refine ⟨_, rfl, p, _, 0, _, rfl, rfl, SqT.of (e7 _ _ hpt), rfl, _, rfl, ui, _, rfl, DGet.k (k := Sum.inl t.1) (e7 _ _ hu6), _, rfl, ?_⟩
        rw [used_val]
        unfold inU
        cases hd : decide (t.1 ∈ Ui) with
        | true => exact iteT ⟨_, rfl, rfl, rfl, Same.refl _⟩
        | false => exact iteF ⟨rfl, Same.refl _⟩
      · have hk7 : TiesAt H7 l7 (ts.filter fun t => inU Ui t.1) := ⟨_, hl7, Paired.imp' (fun v t ⟨a, ha, hb⟩ => (⟨a, ha, e7 _ _ hb⟩ : TieAt H7 v t)) (kept_rows hpy fun t => inU Ui t.1)⟩
        refine ⟨_, rfl, _, rfl, _, rfl, l7, ts, inU Ui, h, g, m, N, rfl, hk7, PT, Fi, hm, fun lo H8 e8 h8 hlo => ⟨(by show 2 ≤ sizeLine; decide), fun tp H9 e9 h9 htp => q (.ref tp) H9 (e14.trans (e6.trans (e7.trans (e8.trans e9)))) ?_⟩⟩
        unfold waysR
        rw [eW]
        exact ⟨tp, lo, rfl, htp, hlo.mono e9⟩
end
end K32
set_option maxRecDepth 100000
namespace K32
open PySem L2 L2.Wy
open PyProof.Rows (boot_list boot_int boot_bool boot_tuple boot_str boot_dict boot_all)
def tStrs (zs : List Str) : TA := fun _ H Q => Q (zs.map V.str) H
def cstS (c : Str × Nat × Pos) : Expr := .Constant (.str c.1) c.2.1 c.2.2
theorem pa_strs0 {X : Cx} : ∀ cs : List (Str × Nat × Pos), PA X (cs.map cstS) (tStrs (cs.map (·.1)))
  | [] => pa_nil
  | (i, j, p) :: cs => pa_cons (e := .Constant (.str i) j p) (es := cs.map cstS) pe_str (pa_strs0 cs)
theorem pa_strs {X : Cx} {es : List Expr} {cs : List (Str × Nat × Pos)} {zs : List Str} (h : es = cs.map cstS) (k : cs.map (·.1) = zs) : PA X es (tStrs zs) := by
  subst h; subst k; exact pa_strs0 cs
def strsOf (es : List Expr) : List (Str × Nat × Pos) := es.filterMap fun e => match e with | .Constant (.str i) j p => some (i, j, p) | _ => none
def tInts (is : List Int) : TA := fun _ H Q => Q (is.map V.int) H
def cstI (c : Int × Nat × Pos) : Expr := .Constant (.int c.1) c.2.1 c.2.2
theorem pa_ints0 {X : Cx} : ∀ cs : List (Int × Nat × Pos), PA X (cs.map cstI) (tInts (cs.map (·.1)))
  | [] => pa_nil
  | (i, j, p) :: cs => pa_cons (e := .Constant (.int i) j p) (es := cs.map cstI) pe_int (pa_ints0 cs)
theorem pa_ints {X : Cx} {es : List Expr} {cs : List (Int × Nat × Pos)} {is : List Int} (h : es = cs.map cstI) (k : cs.map (·.1) = is) : PA X es (tInts is) := by
  subst h; subst k; exact pa_ints0 cs
def intsOf (es : List Expr) : List (Int × Nat × Pos) := es.filterMap fun e => match e with | .Constant (.int i) j p => some (i, j, p) | _ => none
theorem atI_nat {α : Type} {xs : List α} {j : Nat} {x : α} (h : xs[j]? = some x) : atI xs (j : Int) = some x := by
  have hj := (List.getElem?_eq_some_iff.mp h).1
  unfold atI ixN
  rw [if_pos (Int.natCast_nonneg j), if_pos (by simpa using hj)]
  simpa using h
theorem atI_of {α : Type} {xs : List α} {i : Int} (h0 : 0 ≤ i) (h : i < xs.length) : ∃ v, xs[i.toNat]? = some v ∧ atI xs i = some v := by
  have hj : i.toNat < xs.length := by omega
  refine ⟨xs[i.toNat], List.getElem?_eq_getElem hj, ?_⟩
  have := atI_nat (xs := xs) (j := i.toNat) (List.getElem?_eq_getElem hj)
  rwa [Int.toNat_of_nonneg h0] at this
structure TxtA (mg : Str → Option Value) : Prop where
  n_len : mg "len" = none
  n_range : mg "range" = none
  n_list : mg "list" = none
  n_sorted : mg "sorted" = none
  n_enumerate : mg "enumerate" = none
theorem div_step (c b : Int) (hb : 0 < b) (i : Nat) : c / b ^ i / b = c / b ^ (i + 1) := by
  have hp : 0 < b ^ i := Int.pow_pos hb
  rw [Int.pow_succ, Int.ediv_ediv]
  have : ¬ (b ^ i < 0 ∧ ¬ b ∣ c / b ^ i) := fun z => by omega
  simp only [this, if_false, Int.sub_zero]
def mixB (c : Int) : Int := if c / 2 % 2 = 0 then 1000 else 1000000000
theorem mixB_pos (c : Int) : 0 < mixB c ∧ mixB c < 1073741824 := by
  unfold mixB
  split <;> decide
def mix1 (c k : Int) : Int := (c + 7919 * k + 1) % 2147483647 * 48271 % 2147483647
def mix2 (x : Int) : Int := x * (x / 1009 + 69621) % 2147483647
def mix3 (x : Int) : Int := x * (x / 127 + 30011) % 2147483647
theorem mod_bnd (x : Int) : -(2 ^ 64) < x % 2147483647 ∧ x % 2147483647 < 2 ^ 64 := by
  have b1 := Int.emod_nonneg x (show (2147483647 : Int) ≠ 0 by decide)
  have b2 := Int.emod_lt_of_pos x (show (0 : Int) < 2147483647 by decide)
  omega
def mixL (c k : Int) : Int := if c % 2 = 0 ∧ 0 < c / 4 / mixB c ^ k.toNat then c / 4 / mixB c ^ k.toNat % mixB c else mix3 (mix2 (mix1 c k))
section
variable {P : Program} {w : World} {K : PySem.W.Frag} {mg : Str → Option Value} {base : Heap}
theorem sqm {H H' : Hp} {a : Addr} {xs : List V} (h : SqL K H a xs) (e : Same H H') : SqL K H' a xs := by
  rcases h with (h | h) | h
  · exact .inl (.inl (e _ _ h))
  · obtain ⟨o, h⟩ := h
    exact .inl (.inr ⟨o, e _ _ h⟩)
  · exact .inr h
abbrev s_Lcell_at : Stmt := top 38
theorem sc_Lcell_at : FnScope ["_law_script", "_law_k"] ["_law_script", "_law_k"] (defScope s_Lcell_at) := ⟨rfl, rfl, rfl, by decide +kernel, rfl, by decide +kernel, by decide +kernel⟩
def sp_Lcell_at (K : PySem.W.Frag) : Sp := fun vs H Q _ => ∃ (a : Addr) (k : Int) (ns : List Int), vs = [.ref a, .int k] ∧ 0 ≤ k ∧ SqL K H a (ns.map V.int) ∧ ∀ c : Int, Q (.int c) H
theorem ok_Lcell_at {f : Addr} {fd : FuncData} (F : Fun K "_law_cell_at" "_law_cell_at" s_Lcell_at f fd) (T : TxtA mg) : FnOk P w K mg base CX0 1 f fd ["_law_script", "_law_k"] (sp_Lcell_at K) := by
  refine F.ok sc_Lcell_at (fun vs H Q E h => ?_) (fun cdv A outer s H vs Q E hr h => ?_)
  · obtain ⟨a, k, ns, rfl, _⟩ := h
    rfl
  · obtain ⟨a, k, ns, rfl, hk, hS, q⟩ := h
    refine ⟨_, (pss_cons (ps_if (pt_cmpR op_lt (pv 1) (pe_callB (lenK K) rfl T.n_len boot_len (pa_cons (pv 0) pa_nil)) (nomark _))
    (pss_one (ps_ret (pe_ix (ixlK K) (pv 0) (pv 1) (fun _ _ => rfl))))
    pss_nil)
  (pss_one (ps_ret pe_int))), ?_⟩
    refine ⟨_, rfl, _, rfl, a, _, rfl, .inl hS, _, _, rfl, rfl, _, rfl, ?_⟩
    refine ite2 (fun hc => ?_) (fun hc => ?_)
    · have hc := of_decide_eq_true hc
      obtain ⟨v, ev, e⟩ := atI_of hk hc
      rw [List.getElem?_map] at ev
      cases hn : ns[k.toNat]? with
      | none => rw [hn] at ev; cases ev
      | some z =>
        rw [hn] at ev
        have : v = .int z := by simpa using ev.symm
        subst this
        exact ⟨_, rfl, _, rfl, a, _, k, _, rfl, rfl, hS, e, q z⟩
    · exact q 0
abbrev s_Lmix : Stmt := top 39
theorem sc_Lmix : FnScope ["_law_cell", "_law_k", "_law_base", "_law_left", "_law_step", "_law_number"] ["_law_cell", "_law_k"] (defScope s_Lmix) := ⟨rfl, rfl, rfl, by decide +kernel, rfl, by decide +kernel, by decide +kernel⟩
def sp_Lmix : Sp := fun vs H Q _ => ∃ (c k : Int), vs = [.int c, .int k] ∧ 0 ≤ k ∧ k < 1000 ∧ ∀ H', Same H H' → Q (.int (mixL c k)) H'
theorem ok_Lmix {f : Addr} {fd : FuncData} (F : Fun K "_law_mix" "_law_mix" s_Lmix f fd) (T : TxtA mg) : FnOk P w K mg base CX0 1 f fd ["_law_cell", "_law_k"] sp_Lmix := by
  refine F.ok sc_Lmix (fun vs H Q E h => ?_) (fun cdv A outer s H vs Q E hr h => ?_)
  · obtain ⟨c, k, rfl, _⟩ := h
    rfl
  · obtain ⟨c, k, rfl, hk, hk2, q⟩ := h
    have ND := sc_Lmix.nd
    refine ⟨_, (pss_cons (ps_ifJ (pt_cmpR op_eq (pe_op op_mod (pv 0) pe_int) pe_int (nomark _))
    (pss_cons (ps_set (i := 2) ND rfl (by first | exact Or.inl rfl | exact Or.inr rfl) (pe_ix (ixlK K) (pe_lstS (pa_cons pe_int (pa_cons (pe_op op_pow pe_int pe_int) pa_nil))) (pe_op op_mod (pe_op op_fdiv (pv 0) pe_int) pe_int) (fun _ _ => rfl)))
  (pss_cons (ps_set (i := 3) ND rfl (by first | exact Or.inl rfl | exact Or.inr rfl) (pe_op op_fdiv (pv 0) pe_int))
  (pss_cons (ps_for PassesOwn.never rfl (pi_range1 rfl T.n_range (pa_cons (pv 1) pa_nil)) (pg_name (i := 4) ND rfl (by first | exact Or.inl rfl | exact Or.inr rfl))
    (pss_one (ps_set (i := 3) ND rfl (by first | exact Or.inl rfl | exact Or.inr rfl) (pe_op op_fdiv (pv 3) (pv 2)))))
  (pss_one (ps_if (pt_cmpR op_gt (pv 3) pe_int (nomark _))
    (pss_one (ps_ret (pe_op op_mod (pv 3) (pv 2))))
    pss_nil)))))
    pss_nil)
  (pss_cons (ps_set (i := 5) ND rfl (by first | exact Or.inl rfl | exact Or.inr rfl) (pe_op op_mod (pe_op op_mul (pe_op op_mod (pe_op op_add (pe_op op_add (pv 0) (pe_op op_mul pe_int (pv 1))) pe_int) pe_int) pe_int) pe_int))
  (pss_cons (ps_set (i := 5) ND rfl (by first | exact Or.inl rfl | exact Or.inr rfl) (pe_op op_mod (pe_op op_mul (pv 5) (pe_op op_add (pe_op op_fdiv (pv 5) pe_int) pe_int)) pe_int))
  (pss_one (ps_ret (pe_op op_mod (pe_op op_mul (pv 5) (pe_op op_add (pe_op op_fdiv (pv 5) pe_int) pe_int)) pe_int)))))), ?_⟩
    obtain ⟨bp, bq⟩ := mixB_pos c
    refine ⟨fun σ' H' => (∃ o2 o3 o4, σ' = [some (.int c), some (.int k), o2, o3, o4, none]) ∧ Same H H' ∧ ¬ (c % 2 = 0 ∧ 0 < c / 4 / mixB c ^ k.toNat), ?_, ?_⟩
    · rintro σ' H' ⟨⟨o2, o3, o4, rfl⟩, e', hn⟩
      refine ⟨_, rfl, _, rfl, _, _, rfl, rfl, .inl ⟨by decide, by decide⟩, _, _, rfl, rfl, _, _, rfl, rfl, _, _, rfl, rfl, (by show (0 : Int) < 2147483647; decide), _, _, rfl, rfl, .inr ⟨by decide, by decide⟩, _, _, rfl, rfl, (by show (0 : Int) < 2147483647; decide), ?_⟩
      refine ⟨_, rfl, _, rfl, _, _, rfl, rfl, ⟨by decide, by decide⟩, _, _, rfl, rfl, _, _, rfl, rfl, .inl (mod_bnd _), _, _, rfl, rfl, (by show (0 : Int) < 2147483647; decide), ?_⟩
      refine ⟨_, rfl, _, rfl, _, _, rfl, rfl, ⟨by decide, by decide⟩, _, _, rfl, rfl, _, _, rfl, rfl, .inl (mod_bnd _), _, _, rfl, rfl, (by show (0 : Int) < 2147483647; decide), ?_⟩
      have := q H' e'
      unfold mixL at this
      rw [if_neg hn] at this
      exact this
    · refine ⟨_, rfl, _, _, rfl, rfl, (by show (0 : Int) < 2; decide), rfl, _, rfl, ite2 (fun g => ?_) (fun g => ?_)⟩
      · have g : c % 2 = 0 := by
          have := of_decide_eq_true g
          injection this
        refine ⟨_, _, rfl, rfl, ⟨by decide, by decide⟩, (by show 2 ≤ sizeLine; decide), fun l H1 e1 h1 hl => ?_⟩
        have c3 : 0 ≤ c / 2 % 2 := Int.emod_nonneg _ (by decide)
        have c4 : c / 2 % 2 < 2 := Int.emod_lt_of_pos _ (by decide)
        have hb : atI [V.int 1000, V.int ((10 : Int) ^ (9 : Int).toNat)] (c / 2 % 2) = some (.int (mixB c)) := by
          by_cases h : c / 2 % 2 = 0
          · rw [h]
            unfold mixB
            rw [if_pos h]
            rfl
          · have h1 : c / 2 % 2 = 1 := by omega
            rw [h1]
            unfold mixB
            rw [if_neg h]
            rfl
        refine ⟨_, rfl, _, _, rfl, rfl, ⟨by decide, by decide⟩, _, _, rfl, rfl, (by show (0 : Int) < 2; decide), l, _, _, _, rfl, rfl, SqL.of hl, hb, ?_⟩
        refine ⟨_, rfl, _, _, rfl, rfl, ⟨by decide, by decide⟩, ?_⟩
        refine ⟨_, rfl, _, rfl, by omega, by omega, for_range (lo := 0) (n := k.toNat) (fun i σ H' => (∃ o4, σ = [some (.int c), some (.int k), some (.int (mixB c)), some (.int (c / 4 / mixB c ^ i)), o4, none]) ∧ H' = H1) ⟨⟨none, by rw [Int.pow_zero, Int.ediv_one]; rfl⟩, rfl⟩ ?_ ?_⟩
        · rintro i σ H' hi ⟨⟨o4, rfl⟩, rfl⟩
          refine ⟨_, rfl, _, rfl, _, _, rfl, rfl, ⟨bp, bq⟩, ⟨some (.int (0 + (i : Int))), ?_⟩, rfl⟩
          rw [← div_step (c / 4) (mixB c) bp i]
          rfl
        · rintro σ H' ⟨⟨o4, rfl⟩, rfl⟩
          refine ⟨_, rfl, _, _, rfl, rfl, _, rfl, ite2 (fun g2 => ?_) (fun g2 => ?_)⟩
          · have g2 := of_decide_eq_true g2
            refine ⟨_, rfl, _, rfl, _, _, rfl, rfl, bp, ?_⟩
            have := q H' e1
            unfold mixL at this
            rw [if_pos ⟨g, g2⟩] at this
            exact this
          · exact ⟨⟨_, _, _, rfl⟩, e1, fun z => g2 (decide_eq_true z.2)⟩
      · exact ⟨⟨_, _, _, rfl⟩, Same.refl _, fun z => g (decide_eq_true (show V.int (c % 2) = V.int 0 by rw [z.1]))⟩
end
end K32
set_option maxRecDepth 100000
namespace K32
open PySem L2 L2.Wy
open PyProof.Rows (boot_list boot_int boot_bool boot_tuple boot_str boot_dict boot_all)
def S0 : NS := ⟨[], [], 0⟩
theorem name_len {x : Str} (h : isName x = true) : x.length ≤ 8 := by
  unfold isName at h
  rw [Bool.and_eq_true, Bool.and_eq_true] at h
  exact of_decide_eq_true h.1.2
def POk (S : NS) (k : Kd) (x : Str) : Prop := isName x = true ∧ ¬ x ∈ S.names ∧ ¬ (hrB k = false ∧ S.home.isSome = true) ∧ full S k = false
theorem due_none {X : Xc} {S : NS} {x : Str} {k : Kd} (h : POk S k x) : due X S x k = none := by
  obtain ⟨h1, h2, h3, h4⟩ := h
  unfold due
  rw [if_neg (by rw [h1]; exact fun z => nomatch z), if_neg h2, if_neg h3, if_neg (by rw [h4]; exact fun z => nomatch z)]
theorem kind_hears {S : NS} {hd y : Str} (h : ∀ p ∈ S.posts, hrB p.2 = false → p.1 = hd) (ne : y ≠ hd) : hrB (S.kind y) = true := by
  unfold NS.kind
  cases hf : S.posts.find? (fun p => decide (p.1 = y)) with
  | none => rfl
  | some p =>
    have m1 := List.mem_of_find?_eq_some hf
    have m2 : p.1 = y := by simpa using List.find?_some hf
    show hrB p.2 = true
    cases hb : hrB p.2 with
    | true => rfl
    | false => exact absurd (m2.symm.trans (h p m1 hb)) ne
def NM : List Str := ["h", "abc", "b", "ca", "d", "ebb", "f"]
def OD : List Int := [0, 6, 2, 5, 1, 4, 3]
def rkS (x : Str) : Nat := if x = "h" then 0 else if x = "abc" then 6 else if x = "b" then 2 else if x = "ca" then 5 else if x = "d" then 1 else if x = "ebb" then 4 else 3
theorem rkS_lt (x : Str) : rkS x < 7 := by
  unfold rkS
  repeat' split
  all_goals decide
theorem NM_nd : NM.Nodup := by decide +kernel
theorem NM_name : ∀ x ∈ NM, isName x = true := by decide +kernel
theorem OD_at : ∀ u : Fin 7, OD[u.val]? = some ((rkS (NM.getD u.val "") : Nat) : Int) := by decide +kernel
theorem od_at {u : Nat} {x : Str} (h : NM[u]? = some x) : OD[u]? = some ((rkS x : Nat) : Int) := by
  have hu : u < 7 := (List.getElem?_eq_some_iff.mp h).1
  have := OD_at ⟨u, hu⟩
  rw [List.getD_eq_getElem?_getD, h] at this
  exact this
theorem leads_rk {ts : List Tie} (h : ∀ t ∈ ts, rkS t.2.1 < rkS t.2.2.1) {y x : Str} (L : Leads ts y x) : rkS y ≤ rkS x := by
  induction L with
  | refl => exact Nat.le_refl _
  | step ht _ ih => exact Nat.le_of_lt (Nat.lt_of_le_of_lt ih (h _ ht))
structure P1 (i : Nat) (S : NS) : Prop where
  nms : S.names = NM.take i
  ties : S.ties = []
  next : S.next = 0
  hou : ∀ p ∈ S.posts, hrB p.2 = false → p.1 = "h"
  home : S.home = some (("h" : Str), Kd.house)
theorem P1.len {i : Nat} {S : NS} (h : P1 i S) (hi : i ≤ 7) : S.posts.length = i := by
  have := congrArg List.length h.nms
  unfold NS.names at this
  rw [List.length_map, List.length_take, show NM.length = 7 from rfl] at this
  omega
theorem lis_le (S : NS) : S.lis.length ≤ S.posts.length := by
  unfold NS.lis
  rw [List.length_map]
  exact List.length_filter_le _ _
theorem lis_put (S : NS) (x : Str) (k : Kd) : (S.put x k).lis = S.lis ++ (if rdB k = true then [x] else []) := by
  show ((S.posts ++ [(x, k)]).filter fun p => rdB p.2).map (·.1) = _
  rw [List.filter_append, List.map_append]
  congr 1
  cases hb : rdB k with
  | true => rw [if_pos rfl]; simp [hb]
  | false => rw [if_neg (by decide)]; simp [hb]
theorem house_ok : POk S0 .house "h" ∧ P1 1 (S0.put "h" .house) := by
  refine ⟨⟨by decide +kernel, (fun z => nomatch z), (fun z => Bool.noConfusion (show false = true from z.2)), by decide⟩, rfl, rfl, rfl, fun p hp _ => ?_, by decide⟩
  have : p = (("h" : Str), Kd.house) := by
    have hp : p ∈ [(("h" : Str), Kd.house)] := hp
    simpa using hp
  rw [this]
theorem P1.step {x : Str} {i : Nat} {S : NS} {k : Kd} (h : P1 i S) (hx : NM[i]? = some x) (hk : k ≠ .house) : POk S k x ∧ P1 (i + 1) (S.put x k) := by
  obtain ⟨hi, ex⟩ := List.getElem?_eq_some_iff.mp hx
  have hi7 : i < 7 := hi
  have hnew : ¬ x ∈ S.names := by
    rw [h.nms]
    intro z
    obtain ⟨j, hj, e⟩ := List.getElem_of_mem z
    rw [List.getElem_take] at e
    have hj2 : j < i := by rw [List.length_take] at hj; omega
    have := (List.getElem_inj NM_nd (h₀ := by show j < 7; omega) (h₁ := hi)).mp (e.trans ex.symm)
    omega
  have hpl := h.len (by omega)
  have hll := lis_le S
  have hb : hrB k = true := by cases k <;> first | rfl | exact absurd rfl hk
  have ok : POk S k x := by
    refine ⟨NM_name x (List.mem_of_getElem? hx), hnew, (fun z => by rw [hb] at z; cases z.1), ?_⟩
    unfold full
    rw [decide_eq_false (by omega), Bool.false_or]
    cases rdB k with
    | false => rfl
    | true => rw [Bool.true_and]; exact decide_eq_false (by omega)
  refine ⟨ok, ?_, h.ties, h.next, ?_, ?_⟩
  · show (S.posts ++ [(x, k)]).map (·.1) = _
    rw [List.map_append, List.take_add_one, hx]
    exact congrArg (· ++ [x]) h.nms
  · intro p hp hh
    rcases List.mem_append.mp hp with hp | hp
    · exact h.hou p hp hh
    · have : p = (x, k) := by simpa using hp
      subst this
      have hh : hrB k = false := hh
      rw [hb] at hh
      cases hh
  · show (S.posts ++ [(x, k)]).find? _ = _
    rw [List.find?_append]
    have := h.home
    unfold NS.home at this
    rw [this]
    rfl
structure P2 (m j : Nat) (S : NS) : Prop where
  nms : S.names = NM.take m
  hou : ∀ p ∈ S.posts, hrB p.2 = false → p.1 = "h"
  home : S.home = some (("h" : Str), Kd.house)
  ends : ∀ t ∈ S.ties, t.2.1 ∈ NM.take m ∧ t.2.2.1 ∈ NM.take m
  up : ∀ t ∈ S.ties, rkS t.2.1 < rkS t.2.2.1
  num : ∀ t ∈ S.ties, 0 ≤ t.1 ∧ t.1 < S.next
  nd : Nums S.ties
  cnt : S.ties.length ≤ j
  nxt : 0 ≤ S.next ∧ S.next ≤ j
theorem P1.p2 {i : Nat} {S : NS} (h : P1 i S) : P2 i 0 S := by
  have no : ∀ t ∈ S.ties, False := fun t ht => by
    rw [h.ties] at ht
    cases ht
  refine ⟨h.nms, h.hou, h.home, fun t ht => (no t ht).elim, fun t ht => (no t ht).elim, fun t ht => (no t ht).elim, ?_, by rw [h.ties]; exact Nat.le_refl _, by rw [h.next]; decide⟩
  unfold Nums
  rw [h.ties]
  exact List.nodup_nil
theorem P2.mono {m i j : Nat} {S : NS} (h : P2 m i S) (hij : i ≤ j) : P2 m j S := ⟨h.nms, h.hou, h.home, h.ends, h.up, h.num, h.nd, Nat.le_trans h.cnt hij, h.nxt.1, by have := h.nxt.2; omega⟩
theorem P2.tie {m j : Nat} {x y : Str} {S : NS} (h : P2 m j S) (hx : x ∈ NM.take m) (hy : y ∈ NM.take m) (u : rkS x < rkS y) : P2 m (j + 1) (S.tie x y 1) := by
  have mem : ∀ t ∈ (S.tie x y 1).ties, t ∈ S.ties ∨ t = (S.next, x, y, 1) := fun t ht => by
    rcases List.mem_append.mp ht with ht | ht
    · exact .inl ht
    · exact .inr (by simpa using ht)
  have n1 := h.nxt
  refine ⟨h.nms, h.hou, h.home, fun t ht => ?_, fun t ht => ?_, fun t ht => ?_, ?_, ?_, ?_⟩
  · rcases mem t ht with ht | rfl
    · exact h.ends t ht
    · exact ⟨hx, hy⟩
  · rcases mem t ht with ht | rfl
    · exact h.up t ht
    · exact u
  · show 0 ≤ t.1 ∧ t.1 < S.next + 1
    rcases mem t ht with ht | rfl
    · have := h.num t ht
      omega
    · show 0 ≤ S.next ∧ S.next < S.next + 1
      omega
  · show ((S.ties ++ [(S.next, x, y, (1 : Int))]).map (·.1)).Nodup
    rw [List.map_append]
    refine List.nodup_append.mpr ⟨h.nd, by simp, fun a ha b hb e => ?_⟩
    obtain ⟨t, ht, rfl⟩ := List.mem_map.mp ha
    have hb : b = S.next := by simpa using hb
    have := h.num t ht
    omega
  · show (S.ties ++ [(S.next, x, y, (1 : Int))]).length ≤ _
    rw [List.length_append, List.length_singleton]
    have := h.cnt
    omega
  · show 0 ≤ S.next + 1 ∧ S.next + 1 ≤ ((j + 1 : Nat) : Int)
    omega
theorem NetAt.upd {c : Cl} {H : Hp} {n dp dt l : Addr} {S : NS} {xs : List V} {o : HO} (N : NetAt c H n dp dt S) (hl : H l = some (.lst xs)) : NetAt c (L2.upd H l o) n dp dt S := by
  obtain ⟨⟨dx, h1⟩, ⟨kp, h2, p2⟩, ⟨kt, h3, p3⟩, h4⟩ := N
  refine ⟨⟨dx, ?_⟩, ⟨kp, ?_, Paired.mapP p2 fun kv p ⟨a, b, dxb, eb, hb⟩ => ⟨a, b, dxb, eb, ?_⟩⟩, ⟨kt, ?_, Paired.mapP p3 fun kv p ⟨a, b, eb, hb⟩ => ⟨a, b, eb, ?_⟩⟩, h4⟩
  · rw [upd_ne (ne_of h1 hl (fun z => nomatch z))]; exact h1
  · rw [upd_ne (ne_of h2 hl (fun z => nomatch z))]; exact h2
  · rw [upd_ne (ne_of hb hl (fun z => nomatch z))]; exact hb
  · rw [upd_ne (ne_of h3 hl (fun z => nomatch z))]; exact h3
  · rw [upd_ne (ne_of hb hl (fun z => nomatch z))]; exact hb
structure LOk (S : NS) : Prop where
  nn : S.names.Nodup
  nl : S.names.length ≤ 7
  hh : ("h" : Str) ∈ S.names
  home : homeV S.home = .str "h"
  ends : Ends S.ties S.names
  up : ∀ t ∈ S.ties, rkS t.2.1 < rkS t.2.2.1
  nd : Nums S.ties
  num : ∀ t ∈ S.ties, 0 ≤ t.1 ∧ t.1 < 40
  cnt : S.ties.length ≤ 40
theorem P2.ok {m j : Nat} {S : NS} (h : P2 m j S) (hm : 1 ≤ m) (hm7 : m ≤ 7) (hj : j ≤ 40) : LOk S := by
  refine ⟨?_, ?_, ?_, by rw [h.home]; rfl, fun t ht => by rw [h.nms]; exact h.ends t ht, h.up, h.nd, fun t ht => ?_, Nat.le_trans h.cnt hj⟩
  · rw [h.nms]
    exact NM_nd.sublist (List.take_sublist _ _)
  · rw [h.nms, List.length_take]
    omega
  · rw [h.nms]
    obtain ⟨m, rfl⟩ : ∃ m', m = m' + 1 := ⟨m - 1, by omega⟩
    exact List.mem_cons_self ..
  · have h1 := h.num t ht
    have h2 := h.nxt
    omega
section
variable {P : Program} {w : World} {K : PySem.W.Frag} {mg : Str → Option Value} {base : Heap}
def sp_Lnet (K : PySem.W.Frag) (c : Cl) : Sp := fun vs H Q _ => ∃ (c0 : Int) (lc : Addr) (xs : List V), vs = [.int c0, .ref lc] ∧ SqL K H lc xs ∧ (∀ v ∈ xs, ∃ z, v = .int z) ∧ xs.length ≤ 14 ∧
  ∀ tp n dp dt ll H' S, Same H H' → H' tp = some (.tup [.ref n, .ref ll]) → NetAt c H' n dp dt S → H' ll = some (.lst (S.lis.map V.str)) → LOk S → Q (.ref tp) H'
abbrev s_Lnet : Stmt := top 40
theorem sc_Lnet : FnScope ["_law_first", "_law_cells", "_law_names", "_law_net_here", "_law_listeners", "_law_k", "_law_cell", "_law_one", "_law_other", "_law_order"] ["_law_first", "_law_cells"] (defScope s_Lnet) := ⟨rfl, rfl, rfl, by decide +kernel, rfl, by decide +kernel, by decide +kernel⟩
def nE : List Expr := match defBody s_Lnet with
  | .Assign _ (.Subscript (.List e _) _ _) _ :: _ => e
  | _ => []
def oE : List Expr := match defBody s_Lnet with
  | _ :: _ :: _ :: _ :: _ :: .For _ _ (_ :: _ :: .Assign _ (.List e _) _ :: _) _ _ :: _ => e
  | _ => []
def nWith (es fs : List Expr) : List Stmt := match defBody s_Lnet with
  | .Assign tg (.Subscript (.List _ p) sl p2) q :: s1 :: s2 :: s3 :: s4 :: .For t it (b0 :: b1 :: .Assign tg2 (.List _ p3) q2 :: r2) el fp :: r => .Assign tg (.Subscript (.List es p) sl p2) q :: s1 :: s2 :: s3 :: s4 :: .For t it (b0 :: b1 :: .Assign tg2 (.List fs p3) q2 :: r2) el fp :: r
  | b => b
theorem ok_Lnet {c : Cl} {X : Xc} {Y : Xt} {f : Addr} {fd : FuncData} (F : Fun K "_law_net" "_law_net" s_Lnet f fd) (T : TxtA mg) (D_Net : Dk P w K mg base 1 "Net" c.net ["self"] (sp_ninit c)) (D_Lmix : Df P w K mg base 1 "_law_mix" ["_law_cell", "_law_k"] sp_Lmix)
    (D_Net_house : DmX P w K mg base 4 c.net "house" ["self", "name"] (sp_new c X .house)) (D_Net_listener : DmX P w K mg base 4 c.net "listener" ["self", "name"] (sp_new c X .listener)) (D_Net_post : DmX P w K mg base 4 c.net "post" ["self", "name"] (sp_new c X .post))
    (D_Net_tied : DmXd P w K mg base 3 c.net "tie" ["self", "one", "other", "delay"] [.int 1] (sp_tie c Y)) : FnOk P w K mg base CX0 5 f fd ["_law_first", "_law_cells"] (sp_Lnet K c) := by
  refine F.ok sc_Lnet (fun vs H Q E h => ?_) (fun cdv A outer s H vs Q E hr h => ?_)
  · obtain ⟨c0, lc, xs, rfl, _⟩ := h
    rfl
  · obtain ⟨c0, lc, xs, rfl, hlc, hxs, hx14, q⟩ := h
    have ND := sc_Lnet.nd
    obtain ⟨es0, cs0, es1, cs1, he0, hc0, he1, hc1, hb⟩ : ∃ es0 cs0 es1 cs1, es0 = cs0.map cstS ∧ cs0.map (·.1) = NM ∧ es1 = cs1.map cstI ∧ cs1.map (·.1) = OD ∧ defBody s_Lnet = nWith es0 es1 := ⟨nE, strsOf nE, oE, intsOf oE, rfl, rfl, rfl, rfl, rfl⟩
    rw [hb]
    refine ⟨_, (pss_cons (ps_set (i := 2) ND rfl (by first | exact Or.inl rfl | exact Or.inr rfl) (pe_slice (sllS K) (pe_lstS (pa_strs he0 hc0)) po_none (po_some (pe_op op_add pe_int (pe_op op_mod (pv 0) pe_int)))))
  (pss_cons (ps_set (i := 3) ND rfl (by first | exact Or.inl rfl | exact Or.inr rfl) (pe_make0D D_Net (hr.mono (by decide)) rfl))
  (pss_cons (ps_set (i := 4) ND rfl (by first | exact Or.inl rfl | exact Or.inr rfl) (pe_lstS pa_nil))
  (pss_cons (ps_expr (pe_methX on_no (pv 3) D_Net_house (hr.mono (by decide)) (pa_cons (pe_ix (ixlK K) (pv 2) pe_int (fun _ _ => rfl)) pa_nil)))
  (pss_cons (ps_for PassesOwn.never rfl (pi_range2 rfl T.n_range (pa_cons pe_int (pa_cons (pe_callB (lenK K) rfl T.n_len boot_len (pa_cons (pv 2) pa_nil)) pa_nil))) (pg_name (i := 5) ND rfl (by first | exact Or.inl rfl | exact Or.inr rfl))
    (pss_one (ps_ifJ (PW.pt (pw_or (pt_cmpR op_eq (pv 5) pe_int (nomark _)) (pw_or1 (pt_cmpR op_eq (pe_op op_mod (pe_callD D_Lmix (hr.mono (by decide)) rfl (pa_cons (pv 0) (pa_cons (pv 5) pa_nil))) pe_int) pe_int (nomark _)))))
    (pss_cons (ps_expr (pe_methX on_no (pv 3) D_Net_listener (hr.mono (by decide)) (pa_cons (pe_ix (ixlK K) (pv 2) (pv 5) (fun _ _ => rfl)) pa_nil)))
  (pss_one (ps_expr (bmK K PySem.F.plainAttrs_list PySem.F.slot_list_append PySem.F.type_list_append mt_append (pv 4) (pa_cons (pe_ix (ixlK K) (pv 2) (pv 5) (fun _ _ => rfl)) pa_nil)))))
    (pss_one (ps_expr (pe_methX on_no (pv 3) D_Net_post (hr.mono (by decide)) (pa_cons (pe_ix (ixlK K) (pv 2) (pv 5) (fun _ _ => rfl)) pa_nil)))))))
  (pss_cons (ps_for PassesOwn.never rfl (pilK K (pv 1)) (pg_name (i := 6) ND rfl (by first | exact Or.inl rfl | exact Or.inr rfl))
    (pss_cons (ps_set (i := 7) ND rfl (by first | exact Or.inl rfl | exact Or.inr rfl) (pe_op op_mod (pe_callD D_Lmix (hr.mono (by decide)) rfl (pa_cons (pv 6) (pa_cons pe_int pa_nil))) (pe_callB (lenK K) rfl T.n_len boot_len (pa_cons (pv 2) pa_nil))))
  (pss_cons (ps_set (i := 8) ND rfl (by first | exact Or.inl rfl | exact Or.inr rfl) (pe_op op_mod (pe_callD D_Lmix (hr.mono (by decide)) rfl (pa_cons (pv 6) (pa_cons pe_int pa_nil))) (pe_callB (lenK K) rfl T.n_len boot_len (pa_cons (pv 2) pa_nil))))
  (pss_cons (ps_set (i := 9) ND rfl (by first | exact Or.inl rfl | exact Or.inr rfl) (pe_lstS (pa_ints he1 hc1)))
  (pss_cons (ps_ifJ (pt_cmpR op_lt (pe_ix (ixlK K) (pv 9) (pv 7) (fun _ _ => rfl)) (pe_ix (ixlK K) (pv 9) (pv 8) (fun _ _ => rfl)) (nomark _))
    (pss_one (ps_expr (pe_methXd on_no (pv 3) D_Net_tied (hr.mono (by decide)) (pa_cons (pe_ix (ixlK K) (pv 2) (pv 7) (fun _ _ => rfl)) (pa_cons (pe_ix (ixlK K) (pv 2) (pv 8) (fun _ _ => rfl)) pa_nil)))))
    pss_nil)
  (pss_one (ps_ifJ (pt_cmpR op_gt (pe_ix (ixlK K) (pv 9) (pv 7) (fun _ _ => rfl)) (pe_ix (ixlK K) (pv 9) (pv 8) (fun _ _ => rfl)) (nomark _))
    (pss_one (ps_expr (pe_methXd on_no (pv 3) D_Net_tied (hr.mono (by decide)) (pa_cons (pe_ix (ixlK K) (pv 2) (pv 8) (fun _ _ => rfl)) (pa_cons (pe_ix (ixlK K) (pv 2) (pv 7) (fun _ _ => rfl)) pa_nil)))))
    pss_nil)))))))
  (pss_one (ps_ret (pe_tupS (pa_cons (pv 3) (pa_cons (pv 4) pa_nil))))))))))), ?_⟩
    have c1 : 0 ≤ c0 % 6 := Int.emod_nonneg _ (by decide)
    have c2 : c0 % 6 < 6 := Int.emod_lt_of_pos _ (by decide)
    refine ⟨(by rw [List.length_map]; show 7 ≤ sizeLine; decide), fun l0 Ha ea ha hl0 => ?_⟩
    refine ⟨_, rfl, _, _, rfl, rfl, (by show (0 : Int) < 6; decide), _, _, rfl, rfl, _, rfl, l0, _, rfl, SqL.of hl0, fun ln Hb eb hb0 hln => ?_⟩
    obtain ⟨m, hm⟩ : ∃ m : Nat, 2 + c0 % 6 = (m : Int) := ⟨(2 + c0 % 6).toNat, by omega⟩
    have m2 : 2 ≤ m := by omega
    have m7 : m ≤ 7 := by omega
    rw [hm, cut_take, ← List.map_take] at hln
    have eab := ea.trans eb
    have lnlen : ((NM.take m).map V.str).length = m := by rw [List.length_map, List.length_take, show NM.length = 7 from rfl]; omega
    have nmV : ∀ j, j < m → ∃ x, NM[j]? = some x ∧ x ∈ NM.take m ∧ atI ((NM.take m).map V.str) (j : Int) = some (.str x) := fun j hj => by
      have h8 : j < NM.length := by show j < 7; omega
      have e : (NM.take m)[j]? = some NM[j] := (List.getElem?_take_of_lt hj).trans (List.getElem?_eq_getElem h8)
      exact ⟨NM[j], List.getElem?_eq_getElem h8, List.mem_of_getElem? e, atI_nat (by rw [List.getElem?_map, e]; rfl)⟩
    intro n dx hn hdx nd
    refine ⟨n, dx, rfl, upd_same, fun dp dt H1 p1 p2 p3 b1 hi hp ht => ⟨rfl, ?_⟩⟩
    have x1 : dp ≠ n := fun z => by rw [z, upd_same] at p1; cases p1
    have x2 : dt ≠ n := fun z => by rw [z, upd_same] at p2; cases p2
    have y1 : dp ≠ dx := fun z => by rw [upd_ne x1, z, upd_same] at p1; cases p1
    have y2 : dt ≠ dx := fun z => by rw [upd_ne x2, z, upd_same] at p2; cases p2
    have p1 : Hb dp = none := by rw [upd_ne x1, upd_ne y1] at p1; exact p1
    have p2 : Hb dt = none := by rw [upd_ne x2, upd_ne y2] at p2; exact p2
    have e1 : Same Hb H1 := fun a o ha => b1 a o (ne_of_none ha hn) (by rw [upd_ne (ne_of_none ha hn), upd_ne (ne_of_none ha hdx)]; exact ha)
    have N1 : NetAt c H1 n dp dt S0 := ⟨⟨dx, hi⟩, ⟨[], hp, .nil⟩, ⟨[], ht, .nil⟩, p3⟩
    refine ⟨(by show 0 ≤ sizeLine; decide), fun ll H2 e2 h2 hll => ?_⟩
    have nln : ll ≠ n := (ne_of_none hi h2).symm
    have nldp : ll ≠ dp := (ne_of_none hp h2).symm
    have nldt : ll ≠ dt := (ne_of_none ht h2).symm
    have hllb : Hb ll = none := e1.free h2
    obtain ⟨okh, P1h⟩ := house_ok
    have hln2 := e2 _ _ (e1 _ _ hln)
    obtain ⟨x0, ex0, _, ax0⟩ := nmV 0 (by omega)
    cases (show x0 = "h" from (Option.some.inj ex0).symm)
    refine ⟨_, rfl, n, dx, _, rfl, e2 _ _ hi, rfl, _, rfl, ln, _, _, _, rfl, rfl, SqL.of hln2, ax0, n, dp, dt, S0, "h", rfl, N1.mono e2, by decide, by decide, fun r hr' => (by rw [due_none (X := X) okh] at hr'; cases hr'), fun _ H3 b3 N3 => ?_⟩
    have eb3 : Same Hb H3 := fun z o hz => b3 z o (ne_of_none hz p1) (e2 _ _ (e1 _ _ hz))
    have hll3 : H3 ll = some (.lst ((S0.put "h" .house).lis.map V.str)) := b3 ll _ nldp hll
    refine ⟨_, rfl, ln, _, rfl, .inl (SqL.of (eb3 _ _ hln)), 1, _, rfl, ⟨by decide, by decide, by rw [lnlen]; omega, by rw [lnlen]; omega⟩, ?_⟩
    rw [lnlen]
    refine for_range (lo := 1) (n := ((m : Int) - 1).toNat) (fun i σ H' => (∃ o5, σ = [some (.int c0), some (.ref lc), some (.ref ln), some (.ref n), some (.ref ll), o5, none, none, none, none]) ∧ Same Hb H' ∧ ∃ S, NetAt c H' n dp dt S ∧ H' ll = some (.lst (S.lis.map V.str)) ∧ P1 (i + 1) S)
      ⟨⟨_, rfl⟩, eb3, _, N3, hll3, P1h⟩ ?_ ?_
    · rintro i σ H4 hi4 ⟨⟨o5, rfl⟩, e4, S, N4, hll4, hP⟩
      have him : i + 1 < m := by omega
      rw [show (1 : Int) + (i : Int) = ((i + 1 : Nat) : Int) by omega]
      obtain ⟨x, ex, _, ax⟩ := nmV (i + 1) him
      obtain ⟨dx4, hN4⟩ := id N4.ins
      have hpl := hP.len (by omega)
      have hsl := lis_le S
      have put : ∀ (k : Kd) (H5 : Hp) (Q5 : Hp → Prop), Same H4 H5 → k ≠ .house → (∀ H6, But dp H5 H6 → NetAt c H6 n dp dt (S.put x k) → P1 (i + 1 + 1) (S.put x k) → Q5 H6) → sp_new c X k [.ref n, .str x] H5 (fun _ H6 => Q5 H6) (fun _ _ _ => False) := fun k H5 Q5 e5 hk hQ => by
        obtain ⟨ok, hP'⟩ := hP.step ex hk
        have du := due_none (X := X) ok
        refine ⟨n, dp, dt, S, x, rfl, N4.mono e5, Nat.le_trans (name_len ok.1) (by decide), by omega, fun r hr' => ?_, fun _ H' b' N' => hQ H' b' N' hP'⟩
        rw [du] at hr'
        cases hr'
      have same : ∀ H5 H6, Same H4 H5 → But dp H5 H6 → Same Hb H6 := fun H5 H6 e5 b6 z o hz => b6 z o (ne_of_none hz p1) (e5 _ _ (e4 _ _ hz))
      have fin : ∀ H6 : Hp, Same Hb H6 → NetAt c H6 n dp dt (S.put x .listener) → P1 (i + 1 + 1) (S.put x .listener) → H6 ll = some (.lst (S.lis.map V.str)) →
          Same Hb (L2.upd H6 ll (.lst (S.lis.map V.str ++ [.str x]))) ∧ ∃ S', NetAt c (L2.upd H6 ll (.lst (S.lis.map V.str ++ [.str x]))) n dp dt S' ∧ L2.upd H6 ll (.lst (S.lis.map V.str ++ [.str x])) ll = some (.lst (S'.lis.map V.str)) ∧ P1 (i + 1 + 1) S' := fun H6 e6 N6 P6 hl6 =>
        ⟨same_new e6 hllb, _, N6.upd hl6, by rw [upd_same, lis_put, if_pos (show rdB .listener = true from rfl), List.map_append]; rfl, P6⟩
      have sl : ∀ {H6 : Hp}, Same Hb H6 → SqL K H6 ln ((NM.take m).map V.str) := fun e6 => SqL.of (e6 _ _ hln)
      have len : (S.lis.map V.str).length < sizeLine := by
        rw [List.length_map]
        show _ < 2 ^ 24
        omega
      refine ⟨_, fun _ _ h => h, ?_⟩
      refine ⟨_, rfl, rfl, _, rfl, ite2 (fun g => iteT ?_) (fun g => ?_)⟩
      · refine ⟨_, rfl, n, dx4, _, rfl, hN4, rfl, _, rfl, _, rfl, ln, _, _, _, rfl, rfl, sl e4, ax, ?_⟩
        refine put .listener H4 _ (Same.refl _) (fun z => nomatch z) fun H6 b6 N6 P6 => ?_
        have e6 := same H4 H6 (Same.refl _) b6
        have hl6 := b6 ll _ nldp hll4
        exact ⟨_, rfl, .inl ⟨rfl, _, SqL.of hl6⟩, _, rfl, _, rfl, ln, _, _, _, rfl, rfl, sl e6, ax, ll, _, _, rfl, rfl, hl6, len, ⟨_, rfl⟩, fin H6 e6 N6 P6 hl6⟩
      · refine ⟨_, rfl, _, rfl, c0, _, rfl, by omega, by omega, fun H5 e5 => ?_⟩
        refine ⟨_, _, rfl, rfl, (by show (0 : Int) < 3; decide), rfl, _, rfl, ite2 (fun g => ?_) (fun g => ?_)⟩
        · refine ⟨_, rfl, n, dx4, _, rfl, e5 _ _ hN4, rfl, _, rfl, _, rfl, ln, _, _, _, rfl, rfl, sl (e4.trans e5), ax, ?_⟩
          refine put .listener H5 _ e5 (fun z => nomatch z) fun H6 b6 N6 P6 => ?_
          have e6 := same H5 H6 e5 b6
          have hl6 := b6 ll _ nldp (e5 _ _ hll4)
          exact ⟨_, rfl, .inl ⟨rfl, _, SqL.of hl6⟩, _, rfl, _, rfl, ln, _, _, _, rfl, rfl, sl e6, ax, ll, _, _, rfl, rfl, hl6, len, ⟨_, rfl⟩, fin H6 e6 N6 P6 hl6⟩
        · refine ⟨_, rfl, n, dx4, _, rfl, e5 _ _ hN4, rfl, _, rfl, _, rfl, ln, _, _, _, rfl, rfl, sl (e4.trans e5), ax, ?_⟩
          refine put .post H5 _ e5 (fun z => nomatch z) fun H6 b6 N6 P6 => ?_
          refine ⟨⟨_, rfl⟩, same H5 H6 e5 b6, _, N6, ?_, P6⟩
          rw [lis_put, if_neg (by decide), List.append_nil]
          exact b6 ll _ nldp (e5 _ _ hll4)
    · rintro σ H4 ⟨⟨o5, rfl⟩, e4, S4, N4, hll4, hP⟩
      rw [show ((m : Int) - 1).toNat + 1 = m by omega] at hP
      have hP2 := hP.p2
      have lpos : (0 : Int) < (((NM.take m).map V.str).length : Int) := by rw [lnlen]; omega
      have modn : ∀ r : Int, ∃ u : Nat, r % (((NM.take m).map V.str).length : Int) = (u : Int) ∧ u < m := fun r => by
        have r0 : 0 ≤ r % (((NM.take m).map V.str).length : Int) := Int.emod_nonneg _ (by omega)
        have r1 : r % (((NM.take m).map V.str).length : Int) < (((NM.take m).map V.str).length : Int) := Int.emod_lt_of_pos _ lpos
        obtain ⟨u, eu⟩ := Int.eq_ofNat_of_zero_le r0
        refine ⟨u, eu, ?_⟩
        rw [eu, lnlen] at r1
        omega
      have tieok : ∀ (H5 : Hp) (S : NS) (j : Nat) (x y : Str) (Q5 : Hp → Prop), x ∈ NM.take m → y ∈ NM.take m → rkS x < rkS y → NetAt c H5 n dp dt S → P2 m j S → j ≤ 38 →
          (∀ H7, But2 n dt H5 H7 → NetAt c H7 n dp dt (S.tie x y 1) → P2 m (j + 1) (S.tie x y 1) → Q5 H7) → sp_tie c Y [.ref n, .str x, .str y, .int 1] H5 (fun _ H7 => Q5 H7) (fun _ _ _ => False) := fun H5 S j x y Q5 mx my u N5 hP5 hj hQ => by
        have nhd : y ≠ "h" := fun z => by rw [z] at u; exact absurd u (Nat.not_lt_zero _)
        have isd : isDelay 1 = true := by decide
        have k1 : hrB (S.kind y) = true := kind_hears hP5.hou nhd
        have k2 : ¬ Leads S.ties y x := fun L => by have := leads_rk hP5.up L; omega
        have cnt := hP5.cnt
        refine ⟨n, dp, dt, S, x, y, 1, rfl, N5, by rw [hP5.nms]; exact mx, by rw [hP5.nms]; exact my, by omega, fun t ht => (hP5.num t ht).2, fun z => ?_, fun _ z => absurd z k2, fun _ _ z => ?_, fun _ _ _ z => ?_, fun _ _ _ _ H7 b7 N7 => hQ H7 b7 N7 (hP5.tie mx my u)⟩
        · rw [k1] at z; cases z
        · rw [isd] at z; cases z
        · omega
      have eH4 := eab.trans e4
      refine ⟨_, rfl, lc, rfl, ⟨_, sqm hlc eH4⟩, ?_⟩
      refine for_list (K := K) (xs := xs) (fun i σ H' => (∃ o5 o6 o7 o8 o9, σ = [some (.int c0), some (.ref lc), some (.ref ln), some (.ref n), some (.ref ll), o5, o6, o7, o8, o9]) ∧ Same Hb H' ∧ ∃ S, NetAt c H' n dp dt S ∧ H' ll = some (.lst (S.lis.map V.str)) ∧ P2 m (2 * i) S)
        ⟨⟨_, _, _, _, _, rfl⟩, e4, S4, N4, hll4, hP2⟩ (fun i σ H' _ h => sqm hlc (eab.trans h.2.1)) ?_ ?_
      · rintro i v σ H5 ev ⟨⟨o5', o6, o7, o8, o9, rfl⟩, e5, S, N5, hll5, hP5⟩
        have hi14 : i < 14 := Nat.lt_of_lt_of_le (List.getElem?_eq_some_iff.mp ev).1 hx14
        obtain ⟨z, rfl⟩ := hxs v (List.mem_of_getElem? ev)
        have sl : ∀ {H6 : Hp}, Same Hb H6 → SqL K H6 ln ((NM.take m).map V.str) := fun e6 => SqL.of (e6 _ _ hln)
        obtain ⟨u, eu, hu⟩ := modn (mixL z 1)
        obtain ⟨v, ev', hv⟩ := modn (mixL z 2)
        obtain ⟨x, ex, mx, ax⟩ := nmV u hu
        obtain ⟨y, ey, my, ay⟩ := nmV v hv
        refine ⟨_, rfl, z, 1, rfl, by decide, by decide, fun H6 e6 => ⟨_, rfl, ln, _, rfl, .inl (sl (e5.trans e6)), _, _, rfl, rfl, lpos, ?_⟩⟩
        refine ⟨_, rfl, z, 2, rfl, by decide, by decide, fun H7 e7 => ⟨_, rfl, ln, _, rfl, .inl (sl (e5.trans (e6.trans e7))), _, _, rfl, rfl, lpos, ?_⟩⟩
        rw [show (fun i j : Int => V.int (i % j)) (mixL z 1) (((NM.take m).map V.str).length : Int) = V.int (u : Int) from congrArg V.int eu, show (fun i j : Int => V.int (i % j)) (mixL z 2) (((NM.take m).map V.str).length : Int) = V.int (v : Int) from congrArg V.int ev']
        refine ⟨(by rw [List.length_map]; show 7 ≤ sizeLine; decide), fun lo H8 e8 h8 hlo => ?_⟩
        have e58 := e6.trans (e7.trans e8)
        have oat : ∀ {j : Nat} {x : Str}, NM[j]? = some x → atI (OD.map V.int) (j : Int) = some (.int ((rkS x : Nat) : Int)) := fun {j x} h => atI_nat (by rw [List.getElem?_map, od_at h]; rfl)
        have nlo : ∀ {a : Addr} {o : HO}, H5 a = some o → a ≠ lo := fun h => ne_of_none (e7 _ _ (e6 _ _ h)) h8
        refine ⟨fun σ H' => σ = [some (.int c0), some (.ref lc), some (.ref ln), some (.ref n), some (.ref ll), o5', some (.int z), some (.int u), some (.int v), some (.ref lo)] ∧ Same Hb H' ∧ H' lo = some (.lst (OD.map V.int)) ∧ ∃ S, NetAt c H' n dp dt S ∧ H' ll = some (.lst (S.lis.map V.str)) ∧ P2 m (2 * i + 1) S, ?_, ?_⟩
        · rintro σ H9 ⟨rfl, e9, hlo9, S9, N9, hll9, hP9⟩
          obtain ⟨dx9, hN9⟩ := id N9.ins
          refine ⟨_, fun _ _ h => h, ?_⟩
          refine ⟨_, rfl, _, rfl, lo, _, _, _, rfl, rfl, SqL.of hlo9, oat ex, _, rfl, _, rfl, lo, _, _, _, rfl, rfl, SqL.of hlo9, oat ey, _, _, rfl, rfl, _, rfl, ite2 (fun g => ?_) (fun g => ?_)⟩
          · have g : rkS y < rkS x := by have := of_decide_eq_true g; omega
            refine ⟨_, rfl, n, dx9, _, rfl, hN9, rfl, _, rfl, _, rfl, ln, _, _, _, rfl, rfl, sl e9, ay, _, rfl, _, rfl, ln, _, _, _, rfl, rfl, sl e9, ax, ?_⟩
            refine tieok H9 S9 (2 * i + 1) y x _ my mx g N9 hP9 (by omega) fun Ha ba Na Pa => ?_
            exact ⟨⟨_, _, _, _, _, rfl⟩, fun b o hz => ba b o (ne_of_none hz hn) (ne_of_none hz p2) (e9 _ _ hz), _, Na, ba ll _ nln nldt hll9, Pa⟩
          · exact ⟨⟨_, _, _, _, _, rfl⟩, e9, S9, N9, hll9, hP9.mono (by omega)⟩
        · have N8 := N5.mono e58
          obtain ⟨dx8, hN8⟩ := id N8.ins
          have e08 := e5.trans e58
          refine ⟨_, rfl, _, rfl, lo, _, _, _, rfl, rfl, SqL.of hlo, oat ex, _, rfl, _, rfl, lo, _, _, _, rfl, rfl, SqL.of hlo, oat ey, _, _, rfl, rfl, _, rfl, ite2 (fun g => ?_) (fun g => ?_)⟩
          · have g : rkS x < rkS y := by have := of_decide_eq_true g; omega
            refine ⟨_, rfl, n, dx8, _, rfl, hN8, rfl, _, rfl, _, rfl, ln, _, _, _, rfl, rfl, sl e08, ax, _, rfl, _, rfl, ln, _, _, _, rfl, rfl, sl e08, ay, ?_⟩
            refine tieok H8 S (2 * i) x y _ mx my g N8 hP5 (by omega) fun Ha ba Na Pa => ?_
            obtain ⟨kt5, hkt5, _⟩ := id N5.ties
            obtain ⟨dx5, hN5⟩ := id N5.ins
            exact ⟨rfl, fun b o hz => ba b o (ne_of_none hz hn) (ne_of_none hz p2) (e08 _ _ hz), ba lo _ (nlo hN5).symm (nlo hkt5).symm hlo, _, Na, ba ll _ nln nldt (e58 _ _ hll5), Pa⟩
          · exact ⟨rfl, e08, hlo, S, N8, e58 _ _ hll5, hP5.mono (by omega)⟩
      · rintro σ H5 ⟨⟨o5', o6, o7, o8, o9, rfl⟩, e5, S5, N5, hll5, hP5⟩
        refine ⟨_, rfl, _, rfl, (by show 2 ≤ sizeLine; decide), fun tp H6 e6 h6 htp => ?_⟩
        exact q tp n dp dt ll H6 S5 (eab.trans (e5.trans e6)) htp (N5.mono e6) (e6 _ _ hll5) (hP5.ok (by omega) m7 (by omega))
end
end K32
set_option maxRecDepth 100000
namespace K32
open PySem L2 L2.Wy
open PyProof.Rows (boot_list boot_int boot_bool boot_tuple boot_str boot_dict boot_all)
theorem LOk.wok {S : NS} (L : LOk S) {g : Str} (hg : g ∈ S.lis) (hpl : S.posts.length ≤ 1000) (fs : List Int) : WOk S (some fs) "h" g 7 := by
  have sub : ∀ t ∈ stand S.ties (some fs), t ∈ S.ties := fun t ht => (List.mem_filter.mp ht).1
  refine ⟨⟨L.nd.filter _, ⟨rkS, fun t ht => L.up t (sub t ht), rkS_lt⟩, by decide, ?_⟩, fun t ht => L.ends t (sub t ht), L.nn, L.nl, L.hh, L.home, hg, ?_, hpl⟩
  · have := L.cnt
    exact Nat.le_trans (List.length_filter_le _ _) (by omega)
  · have := L.cnt
    omega
theorem LOk.few {S : NS} (L : LOk S) : S.posts.length ≤ 1000 := by
  have := L.nl
  unfold NS.names at this
  rw [List.length_map] at this
  omega
def cnt6 (S : NS) (fs : List Int) (g : Str) : Nat := cntF (stand S.ties (some fs)) (some "h") g 7 6
theorem waysR_l {ts : List Tie} {h g : Str} {N m : Nat} (e : isR (waysF ts (some h) g N m []) = false) : ∃ ks, waysF ts (some h) g N m [] = .inl ks ∧ waysR ts h g N m = .inl ks := by
  unfold waysR
  cases hw : waysF ts (some h) g N m [] with
  | inl ks => exact ⟨ks, rfl, rfl⟩
  | inr U => rw [hw] at e; cases e
theorem waysR_r {ts : List Tie} {h g : Str} {N m : Nat} (e : isR (waysF ts (some h) g N m []) = true) : ∃ U, waysF ts (some h) g N m [] = .inr U ∧ waysR ts h g N m = .inr (partF h g N m (ts.filter fun t => inU U t.1)) := by
  unfold waysR
  cases hw : waysF ts (some h) g N m [] with
  | inl ks => rw [hw] at e; cases e
  | inr U => exact ⟨U, rfl, rfl⟩
section
variable {P : Program} {w : World} {K : PySem.W.Frag} {mg : Str → Option Value} {base : Heap}
def sp_Lcount (c : Cl) : Sp := fun vs H Q _ => ∃ (n dp dt : Addr) (S : NS) (g : Str) (lf : Addr) (fs : List Int), vs = [.ref n, .str g, .ref lf] ∧ NetAt c H n dp dt S ∧ LOk S ∧ g ∈ S.lis ∧ H lf = some (.lst (fs.map V.int)) ∧ ∀ H', Same H H' → Q (.int (cnt6 S fs g : Nat)) H'
abbrev s_Lcount : Stmt := top 41
theorem sc_Lcount : FnScope ["_law_net_here", "_law_name", "_law_fallen", "_law_found", "_law_many", "_law_word"] ["_law_net_here", "_law_name", "_law_fallen"] (defScope s_Lcount) := ⟨rfl, rfl, rfl, by decide +kernel, rfl, by decide +kernel, by decide +kernel⟩
theorem ok_Lcount {c : Cl} {f : Addr} {fd : FuncData} (F : Fun K "_law_count" "_law_count" s_Lcount f fd) (T : TxtA mg) (D_ways : Df P w K mg base 4 "ways" ["net", "listener", "many", "fallen"] (sp_ways c)) : FnOk P w K mg base CX0 5 f fd ["_law_net_here", "_law_name", "_law_fallen"] (sp_Lcount c) := by
  refine F.ok sc_Lcount (fun vs H Q E h => ?_) (fun cdv A outer s H vs Q E hr h => ?_)
  · obtain ⟨n, dp, dt, S, g, lf, fs, rfl, _⟩ := h
    rfl
  · obtain ⟨n, dp, dt, S, g, lf, fs, rfl, NA, L, hg, hlf, q⟩ := h
    have ND := sc_Lcount.nd
    refine ⟨_, (pss_cons (ps_set (i := 3) ND rfl (by first | exact Or.inl rfl | exact Or.inr rfl) pe_int)
  (pss_cons (ps_for PassesOwn.never rfl (pi_range2 rfl T.n_range (pa_cons pe_int (pa_cons pe_int pa_nil))) (pg_name (i := 4) ND rfl (by first | exact Or.inl rfl | exact Or.inr rfl))
    (pss_cons (ps_set (i := 5) ND rfl (by first | exact Or.inl rfl | exact Or.inr rfl) (pe_ix (ixtK K) (pe_callD D_ways (hr.mono (by decide)) rfl (pa_cons (pv 0) (pa_cons (pv 1) (pa_cons (pv 4) (pa_cons (pe_callTy (listS K) rfl T.n_list boot_list (pa_cons (pv 2) pa_nil)) pa_nil))))) pe_int (fun _ _ => rfl)))
  (pss_one (ps_ifJ (PW.pt (pw_and (pt_cmpR op_eq (pv 5) pe_str (nomark _)) (pw_and1 (pt_cmpR op_eq (pv 3) (pe_op op_sub (pv 4) pe_int) (nomark _)))))
    (pss_one (ps_set (i := 3) ND rfl (by first | exact Or.inl rfl | exact Or.inr rfl) (pv 4)))
    (pss_one (ps_if (pt_cmpR op_ne (pv 5) pe_str (nomark _))
    (pss_one (ps_ret pe_non))
    pss_nil))))))
  (pss_one (ps_ret (pv 3))))), ?_⟩
    refine ⟨1, 7, rfl, ⟨by decide, by decide, by decide, by decide⟩, ?_⟩
    refine for_range (lo := 1) (n := ((7 : Int) - 1).toNat) (fun i σ H' => (∃ o4 o5, σ = [some (.ref n), some (.str g), some (.ref lf), some (.int (cntF (stand S.ties (some fs)) (some "h") g 7 i : Nat)), o4, o5]) ∧ Same H H')
      ⟨⟨none, none, rfl⟩, Same.refl _⟩ ?_ ?_
    · rintro i σ H1 hi ⟨⟨o4, o5, rfl⟩, e1⟩
      have hi : i < 6 := hi
      rw [show (1 : Int) + (i : Int) = ((i + 1 : Nat) : Int) by omega]
      refine ⟨_, rfl, _, rfl, _, rfl, _, rfl, lf, _, rfl, .inl (SqL.of (e1 _ _ hlf)), fun l2 H2 e2 h2 hl2 => ?_⟩
      have e12 := e1.trans e2
      refine ⟨n, dp, dt, S, "h", g, i + 1, 7, .ref l2, some fs, rfl, NA.mono e12, ⟨l2, rfl, hl2⟩, L.wok hg L.few fs, by omega, fun v H3 e3 hv => ?_⟩
      have e13 := e12.trans e3
      cases hw : isR (waysF (stand S.ties (some fs)) (some "h") g 7 (i + 1) []) with
      | true =>
        obtain ⟨U, _, er⟩ := waysR_r hw
        rw [er] at hv
        obtain ⟨tp, lo, rfl, htp, _⟩ := hv
        refine ⟨tp, _, 0, .str "ways", rfl, rfl, SqT.of htp, rfl, ?_⟩
        refine ⟨_, fun _ _ h => h, ?_⟩
        refine ⟨_, rfl, rfl, _, rfl, ?_⟩
        rw [decide_eq_true rfl]
        refine iteT ⟨_, rfl, _, rfl, _, _, rfl, rfl, rfl, _, rfl, ?_⟩
        have ci : cntF (stand S.ties (some fs)) (some "h") g 7 i = i := cntF_all (isR_down hw)
        rw [decide_eq_true (show V.int ((cntF (stand S.ties (some fs)) (some "h") g 7 i : Nat) : Int) = V.int (((i + 1 : Nat) : Int) - 1) by rw [ci]; congr 1; omega)]
        refine iteT ⟨_, rfl, ⟨some (.int ((i + 1 : Nat) : Int)), some (.str "ways"), ?_⟩, e13⟩
        rw [cntF_succ, if_pos hw]
        rfl
      | false =>
        obtain ⟨ks, _, er⟩ := waysR_l hw
        rw [er] at hv
        obtain ⟨tp, lo, rfl, htp, _⟩ := hv
        refine ⟨tp, _, 0, .str "cut", rfl, rfl, SqT.of htp, rfl, ?_⟩
        refine ⟨_, fun _ _ h => h, ?_⟩
        refine ⟨_, rfl, rfl, _, rfl, ?_⟩
        rw [decide_eq_false (show ¬ V.str "cut" = V.str "ways" from fun z => by injection z with z; exact absurd z (by decide))]
        refine iteF (iteF ⟨_, rfl, rfl, _, rfl, iteNS rfl ⟨⟨some (.int ((i + 1 : Nat) : Int)), some (.str "cut"), ?_⟩, e13⟩⟩)
        rw [cntF_succ, if_neg (by rw [hw]; decide)]
        rfl
    · rintro σ H1 ⟨⟨o4, o5, rfl⟩, e1⟩
      exact ⟨_, rfl, q H1 e1⟩
end
end K32
set_option maxRecDepth 100000
namespace K32
open PySem L2 L2.Wy
open PyProof.Rows (boot_list boot_int boot_bool boot_tuple boot_str boot_dict boot_all boot_sorted)
theorem stand_more {ts : List Tie} {fs ns : List Int} {r : Int} (pm : ns.Perm (fs ++ [r])) : stand ts (some ns) = (stand ts (some fs)).filter fun t => !decide (t.1 = r) := by
  show ts.filter _ = (ts.filter _).filter _
  rw [List.filter_filter]
  refine List.filter_congr fun t _ => ?_
  have : t.1 ∈ ns ↔ t.1 ∈ fs ∨ t.1 = r := by rw [pm.mem_iff, List.mem_append, List.mem_singleton]
  by_cases h1 : t.1 ∈ fs
  · rw [decide_eq_true (this.mpr (.inl h1)), decide_eq_true h1]
    simp
  · by_cases h2 : t.1 = r
    · rw [decide_eq_true (this.mpr (.inr h2)), decide_eq_true h2]
      simp
    · rw [decide_eq_false (fun z => (this.mp z).elim h1 h2), decide_eq_false h1, decide_eq_false h2]
      rfl
section
variable {P : Program} {w : World} {K : PySem.W.Frag} {mg : Str → Option Value} {base : Heap}
def sp_Lright (c : Cl) : Sp := fun vs H Q _ => ∃ (n dp dt : Addr) (S : NS) (g : Str) (lf : Addr) (fs : List Int), vs = [.ref n, .str g, .ref lf] ∧ NetAt c H n dp dt S ∧ LOk S ∧ g ∈ S.lis ∧ H lf = some (.lst (fs.map V.int)) ∧ fs.length ≤ 60 ∧ ∀ H', Same H H' → Q (.bl true) H'
abbrev s_Lright : Stmt := top 42
theorem sc_Lright : FnScope ["_law_net_here", "_law_name", "_law_fallen", "_law_count_here", "_law_word", "_law_cut", "_law_some", "_law_way", "_law_row", "_law_fewer"] ["_law_net_here", "_law_name", "_law_fallen"] (defScope s_Lright) := ⟨rfl, rfl, rfl, by decide +kernel, rfl, by decide +kernel, by decide +kernel⟩
theorem ok_Lright {c : Cl} {f : Addr} {fd : FuncData} (F : Fun K "_law_right" "_law_right" s_Lright f fd) (T : TxtA mg) (D_ways : Df P w K mg base 4 "ways" ["net", "listener", "many", "fallen"] (sp_ways c)) (D_Lcount : Df P w K mg base 5 "_law_count" ["_law_net_here", "_law_name", "_law_fallen"] (sp_Lcount c)) (D_Net_ties : Dm P w K mg base 1 c.net "ties" ["self"] (sp_ties c)) : FnOk P w K mg base CX0 6 f fd ["_law_net_here", "_law_name", "_law_fallen"] (sp_Lright c) := by
  refine F.ok sc_Lright (fun vs H Q E h => ?_) (fun cdv A outer s H vs Q E hr h => ?_)
  · obtain ⟨n, dp, dt, S, g, lf, fs, rfl, _⟩ := h
    rfl
  · obtain ⟨n, dp, dt, S, g, lf, fs, rfl, NA, L, hg, hlf, hf60, q⟩ := h
    have ND := sc_Lright.nd
    obtain ⟨dx, hN⟩ := id NA.ins
    refine ⟨_, (pss_cons (ps_set (i := 3) ND rfl (by first | exact Or.inl rfl | exact Or.inr rfl) (pe_callD D_Lcount (hr.mono (by decide)) rfl (pa_cons (pv 0) (pa_cons (pv 1) (pa_cons (pv 2) pa_nil)))))
  (pss_cons (ps_if (pt_cmpR op_isN (pv 3) pe_non (nomark _))
    (pss_one (ps_ret pe_bl))
    pss_nil)
  (pss_cons (ps_if (pt_cmpR op_eq (pv 3) pe_int (nomark _))
    (pss_one (ps_ret pe_bl))
    pss_nil)
  (pss_cons (ps_asg (pe_callD D_ways (hr.mono (by decide)) rfl (pa_cons (pv 0) (pa_cons (pv 1) (pa_cons (pe_op op_add (pv 3) pe_int) (pa_cons (pe_callTy (listS K) rfl T.n_list boot_list (pa_cons (pv 2) pa_nil)) pa_nil))))) (pgtK K (n := 2) rfl (pgs_cons (pg_name (i := 4) ND rfl (by first | exact Or.inl rfl | exact Or.inr rfl)) (pgs_cons (pg_name (i := 5) ND rfl (by first | exact Or.inl rfl | exact Or.inr rfl)) pgs_nil))))
  (pss_cons (ps_if (pt_cmpR op_ne (pe_callB (lenK K) rfl T.n_len boot_len (pa_cons (pv 5) pa_nil)) (pv 3) (nomark _))
    (pss_one (ps_ret pe_bl))
    pss_nil)
  (pss_cons (ps_set (i := 6) ND rfl (by first | exact Or.inl rfl | exact Or.inr rfl) (pe_lstS pa_nil))
  (pss_cons (ps_ifJ (pt_cmpR op_gt (pv 3) pe_int (nomark _))
    (pss_one (ps_set (i := 6) ND rfl (by first | exact Or.inl rfl | exact Or.inr rfl) (pe_ix (ixtK K) (pe_callD D_ways (hr.mono (by decide)) rfl (pa_cons (pv 0) (pa_cons (pv 1) (pa_cons (pv 3) (pa_cons (pe_callTy (listS K) rfl T.n_list boot_list (pa_cons (pv 2) pa_nil)) pa_nil))))) pe_int (fun _ _ => rfl))))
    pss_nil)
  (pss_cons (ps_for PassesOwn.never rfl (pilK K (pv 6)) (pg_name (i := 7) ND rfl (by first | exact Or.inl rfl | exact Or.inr rfl))
    (pss_one (ps_if (pt_cmpR op_ne (pe_callB (lenK K) rfl T.n_len boot_len (pa_cons (pe_comp rfl (compScope_of (nT := 1) (js := [5]) (N' := ["_law_number", "_law_cut"]) rfl rfl (by kernel_rfl)) (pilK K (pv 7))
    (fun _ _ _ _ _ => (pg_name (i := 0) (show List.Nodup (["_law_number", "_law_cut"] : List Str) by decide +kernel) rfl (by first | exact Or.inl rfl | exact Or.inr rfl)))
    (fun _ _ _ _ _ => (pif_one (pt_cmpR (inK K) (pv 0) (pv 1) (by with_unfolding_all rfl))))
    (fun _ _ _ _ _ => (pv 0))) pa_nil)) pe_int (nomark _))
    (pss_one (ps_ret pe_bl))
    pss_nil)))
  (pss_cons (ps_for PassesOwn.never rfl (pilK K (pe_meth0D (pv 0) D_Net_ties (hr.mono (by decide)))) (pg_name (i := 8) ND rfl (by first | exact Or.inl rfl | exact Or.inr rfl))
    (pss_one (ps_ifJ (pt_cmpR (notinK K) (pe_ix (ixtK K) (pv 8) pe_int (fun _ _ => rfl)) (pv 2) (by with_unfolding_all rfl))
    (pss_cons (ps_set (i := 9) ND rfl (by first | exact Or.inl rfl | exact Or.inr rfl) (pe_callD D_Lcount (hr.mono (by decide)) rfl (pa_cons (pv 0) (pa_cons (pv 1) (pa_cons (pe_callB call_sorted_l rfl T.n_sorted boot_sorted (pa_cons (pe_op op_catS (pv 2) (pe_lstS (pa_cons (pe_ix (ixtK K) (pv 8) pe_int (fun _ _ => rfl)) pa_nil))) pa_nil)) pa_nil)))))
  (pss_one (ps_if (PW.pt (pw_or (pt_cmpR op_isN (pv 9) pe_non (nomark _)) (pw_or (pt_cmpR op_gt (pv 9) (pv 3) (nomark _)) (pw_or (pt_cmpR op_lt (pv 9) (pe_op op_sub (pv 3) pe_int) (nomark _)) (pw_or1 (PW.pt (pw_and (pt_cmpR (inK K) (pe_ix (ixtK K) (pv 8) pe_int (fun _ _ => rfl)) (pv 5) (by with_unfolding_all rfl)) (pw_and1 (pt_cmpR op_ne (pv 9) (pe_op op_sub (pv 3) pe_int) (nomark _))))))))))
    (pss_one (ps_ret pe_bl))
    pss_nil)))
    pss_nil)))
  (pss_one (ps_ret pe_bl))))))))))), ?_⟩
    refine ⟨_, rfl, _, rfl, _, rfl, n, dp, dt, S, g, lf, fs, rfl, NA, L, hg, hlf, fun H1 e1 => ?_⟩
    have O := L.wok hg L.few fs
    have nd := O.parts.nd
    obtain ⟨kle, -, -⟩ := cntF_ok (stand S.ties (some fs)) (some "h") g 7 6
    have hac : cnt6 S fs g < 6 → ∃ ks U p, AtCount (stand S.ties (some fs)) "h" g 7 (cnt6 S fs g) ks U p := fun h => at_count nd O.ends O.hh O.hN h
    have hof : ∀ r : Int, cnt6 S fs g < 6 → ∀ ks U p, AtCount (stand S.ties (some fs)) "h" g 7 (cnt6 S fs g) ks U p → ∀ ns : List Int, ns.Perm (fs ++ [r]) → cnt6 S ns g ≤ cnt6 S fs g ∧ cnt6 S fs g ≤ cnt6 S ns g + 1 ∧ (r ∈ ks → cnt6 S ns g + 1 = cnt6 S fs g) := fun r hk ks U p A ns pm => by
      have := one_fallen nd O.ends O.hh O.hN hk A r
      unfold cnt6 at this ⊢
      rw [stand_more pm]
      exact this
    have kle : cnt6 S fs g ≤ 6 := kle
    generalize cnt6 S fs g = k at kle hac hof ⊢
    refine ⟨_, rfl, rfl, _, rfl, iteF ?_⟩
    refine ⟨_, rfl, rfl, _, rfl, ite2 (fun g6 => q H1 e1) (fun g6 => ?_)⟩
    have hk : k < 6 := by
      rcases Nat.lt_or_ge k 6 with h | h
      · exact h
      · exact absurd (decide_eq_true (by rw [show k = 6 by omega]; rfl)) g6
    obtain ⟨ks, U, p, A⟩ := hac hk
    have hof := fun r => hof r hk ks U p A
    refine ⟨_, rfl, _, rfl, _, rfl, _, _, rfl, rfl, _, rfl, lf, _, rfl, .inl (SqL.of (e1 _ _ hlf)), fun l2 H2 e2 h2 hl2 => ?_⟩
    have e12 := e1.trans e2
    refine ⟨n, dp, dt, S, "h", g, k + 1, 7, .ref l2, some fs, rfl, NA.mono e12, ⟨l2, rfl, hl2⟩, O, by omega, fun v H3 e3 hv => ?_⟩
    have e13 := e12.trans e3
    have er : waysR (stand S.ties (some fs)) "h" g 7 (k + 1) = .inl ks := by
      unfold waysR
      rw [A.cut]
    rw [er] at hv
    obtain ⟨tp, lo, rfl, htp, hlo⟩ := hv
    refine ⟨tp, _, rfl, SqT.of htp, rfl, _, _, rfl, _, [], rfl, rfl, ?_⟩
    refine ⟨_, rfl, lo, _, rfl, .inl (SqL.of hlo), _, rfl, rfl, _, rfl, iteNS (by rw [List.length_map, A.len]) ?_⟩
    refine ⟨(by show 0 ≤ sizeLine; decide), fun ls H4 e4 h4 hls => ?_⟩
    have e14 := e13.trans e4
    refine ⟨fun σ' H' => ∃ (ls : Addr) (wss : List (List Int)), σ' = [some (.ref n), some (.str g), some (.ref lf), some (.int (k : Nat)), some (.str "cut"), some (.ref lo), some (.ref ls), none, none, none] ∧ Same H3 H' ∧ WaysAt H' ls wss ∧ (∀ ws ∈ wss, (ws.filter fun j => decide (j ∈ ks)).length = 1) ∧ (∀ ws ∈ wss, ws.length ≤ 1000), ?_, ?_⟩
    · rintro σ' H5 ⟨ls, wss, rfl, e5, ⟨xs, hxs, hpx⟩, hone, hwl⟩
      have hxl := Paired.length hpx
      refine ⟨_, rfl, ls, rfl, ⟨_, SqL.of hxs⟩, ?_⟩
      refine for_list (K := K) (xs := xs) (fun i σ H' => (∃ o7, σ = [some (.ref n), some (.str g), some (.ref lf), some (.int (k : Nat)), some (.str "cut"), some (.ref lo), some (.ref ls), o7, none, none]) ∧ Same H5 H')
        ⟨⟨_, rfl⟩, Same.refl _⟩ (fun i σ H' _ h => SqL.of (h.2 _ _ hxs)) ?_ ?_
      · rintro i v σ H6 ev ⟨⟨o7, rfl⟩, e6⟩
        obtain ⟨ws, ew, a, rfl, _, haw⟩ := Paired.at hpx ev
        have hw := List.mem_of_getElem? ew
        have ha6 := e6 _ _ haw
        have hlo6 := e6 _ _ (e5 _ _ hlo)
        refine ⟨_, rfl, a, rfl, ⟨_, SqL.of ha6⟩, compG_list (K := K) (fun i => decide (ws.getD i 0 ∈ ks)) (fun i => .int (ws.getD i 0)) ha6 (by rw [List.length_map]; exact hwl ws hw) (fun j x H7 ex e7 => ?_) (fun l7 H7 h7 e7 hl7 => ?_)⟩
        · obtain ⟨z, ez, rfl⟩ : ∃ z, ws[j]? = some z ∧ x = .int z := by
            rw [List.getElem?_map] at ex
            cases hm : ws[j]? with
            | none => rw [hm] at ex; cases ex
            | some m => rw [hm] at ex; exact ⟨m, rfl, by simpa using ex.symm⟩
          have eg : ws.getD j 0 = z := by rw [List.getD_eq_getElem?_getD, ez]; rfl
          rw [eg]
          refine ⟨_, rfl, _, rfl, lo, _, rfl, .inl (SqL.of (e7 _ _ hlo6)), rfl, flat_ints ks, _, rfl, ?_⟩
          rw [if_neg (by decide), inV_ints]
          cases hd : decide (z ∈ ks) with
          | true => exact iteT ⟨_, rfl, rfl, rfl, Same.refl _⟩
          | false => exact iteF ⟨rfl, Same.refl _⟩
        · rw [List.length_map, range_filter_map ws (fun z => decide (z ∈ ks)) (fun z => V.int z) _ _ fun i z ez => by rw [List.getD_eq_getElem?_getD, ez]; exact ⟨rfl, rfl⟩] at hl7
          refine ⟨l7, _, rfl, .inl (SqL.of hl7), rfl, _, rfl, iteNS (by rw [List.length_map, hone ws hw]; rfl) ⟨⟨_, rfl⟩, e6.trans e7⟩⟩
      · rintro σ H6 ⟨⟨o7, rfl⟩, e6⟩
        have e36 := e5.trans e6
        have e06 := e13.trans e36
        have hz : S.ties.length ≤ 1000 := O.tl
        refine ⟨_, rfl, n, dx, _, rfl, e06 _ _ hN, rfl, n, dp, dt, S, rfl, NA.mono e06, hz, fun lt H7 e7 h7 hlt => ?_⟩
        obtain ⟨ys, hys, hpy⟩ := hlt
        refine ⟨lt, rfl, ⟨_, SqL.of hys⟩, ?_⟩
        refine for_list (K := K) (xs := ys) (fun i σ H' => (∃ o8 o9, σ = [some (.ref n), some (.str g), some (.ref lf), some (.int (k : Nat)), some (.str "cut"), some (.ref lo), some (.ref ls), o7, o8, o9]) ∧ Same H7 H')
          ⟨⟨_, _, rfl⟩, Same.refl _⟩ (fun i σ H' _ h => SqL.of (h.2 _ _ hys)) ?_ ?_
        · rintro i v σ H8 ev ⟨⟨o8, o9, rfl⟩, e8⟩
          obtain ⟨t, et, pt, rfl, hpt⟩ := Paired.at hpy ev
          have hpt8 := e8 _ _ hpt
          have e08 := e06.trans (e7.trans e8)
          have hlf8 := e08 _ _ hlf
          have hlo8 := e8 _ _ (e7 _ _ (e36 _ _ hlo))
          refine ⟨_, fun _ _ h => h, ?_⟩
          refine ⟨_, rfl, pt, _, 0, _, rfl, rfl, SqT.of hpt8, rfl, _, rfl, lf, _, rfl, .inl (SqL.of hlf8), rfl, flat_ints fs, _, rfl, ?_⟩
          rw [if_pos rfl, inV_ints]
          cases hd : decide (t.1 ∈ fs) with
          | true => exact iteF ⟨⟨_, _, rfl⟩, e8⟩
          | false =>
            refine iteT ⟨_, rfl, _, rfl, _, rfl, _, rfl, pt, _, 0, _, rfl, rfl, SqT.of hpt8, rfl, (by show 1 ≤ sizeLine; decide), fun l1 H9 e9 h9 hl1 => ?_⟩
            refine ⟨lf, l1, _, _, rfl, rfl, e9 _ _ hlf8, hl1, ?_, fun l2 Ha ea ha hl2 => ?_⟩
            · rw [List.length_map]
              show fs.length + 1 ≤ 2 ^ 24
              omega
            refine ⟨l2, fs ++ [t.1], rfl, by rw [hl2, List.map_append]; rfl, by rw [List.length_append, List.length_singleton]; omega, fun ns pm sr l3 Hb eb hb hl3 => ?_⟩
            have e8b := e9.trans (ea.trans eb)
            refine ⟨n, dp, dt, S, g, l3, ns, rfl, NA.mono (e08.trans e8b), L, hg, hl3, fun Hc ec => ?_⟩
            have e8c := e8b.trans ec
            obtain ⟨b1, b2, b3⟩ := hof t.1 ns pm
            generalize cnt6 S ns g = k' at b1 b2 b3 ⊢
            refine ⟨_, rfl, rfl, _, rfl, iteF ?_⟩
            refine ⟨_, rfl, _, rfl, _, _, rfl, rfl, _, rfl, ?_⟩
            rw [decide_eq_false (by omega)]
            refine iteF ⟨_, rfl, _, rfl, _, _, rfl, rfl, _, _, rfl, rfl, _, rfl, ?_⟩
            rw [decide_eq_false (by omega)]
            refine iteF ⟨_, rfl, pt, _, 0, _, rfl, rfl, SqT.of (e8c _ _ hpt8), rfl, _, rfl, lo, _, rfl, .inl (SqL.of (e8c _ _ hlo8)), rfl, flat_ints ks, _, rfl, ?_⟩
            rw [if_neg (by decide), inV_ints]
            cases hd2 : decide (t.1 ∈ ks) with
            | false => exact iteF (iteF ⟨⟨_, _, rfl⟩, e8.trans e8c⟩)
            | true =>
              have b3 := b3 (of_decide_eq_true hd2)
              refine iteT ⟨_, rfl, _, rfl, _, _, rfl, rfl, rfl, _, rfl, ?_⟩
              rw [decide_eq_true (show V.int (k' : Int) = V.int ((k : Int) - 1) by congr 1; omega)]
              exact iteF ⟨⟨_, _, rfl⟩, e8.trans e8c⟩
        · rintro σ H8 ⟨⟨o8, o9, rfl⟩, e8⟩
          exact q _ (e06.trans (e7.trans e8))
    · refine ⟨_, rfl, _, _, rfl, rfl, _, rfl, ite2 (fun g0 => ?_) (fun g0 => ?_)⟩
      · have g0 : 0 < k := by have := of_decide_eq_true g0; omega
        refine ⟨_, rfl, _, rfl, _, rfl, _, rfl, lf, _, rfl, .inl (SqL.of (e14 _ _ hlf)), fun l5 H5 e5 h5 hl5 => ?_⟩
        refine ⟨n, dp, dt, S, "h", g, k, 7, .ref l5, some fs, rfl, NA.mono (e14.trans e5), ⟨l5, rfl, hl5⟩, O, by omega, fun v H6 e6 hv => ?_⟩
        have er : waysR (stand S.ties (some fs)) "h" g 7 k = .inr (partF ("h" : Str) g 7 k ((stand S.ties (some fs)).filter fun t => inU U t.1)) := by
          unfold waysR
          rw [A.way]
        rw [er] at hv
        obtain ⟨tp2, ls2, rfl, htp2, hls2⟩ := hv
        refine ⟨tp2, _, 1, .ref ls2, rfl, rfl, SqT.of htp2, rfl, ?_⟩
        obtain ⟨rk, hr1, hr2⟩ := O.parts.rk
        obtain ⟨wss, ew, _, hw, _⟩ := partF_ok nd hr1 hr2 k (inU U) A.flow
        rw [ew] at hls2
        refine ⟨ls2, _, rfl, e4.trans (e5.trans e6), hls2, fun ws hws => ?_, fun ws hws => ?_⟩
        · obtain ⟨us, hus, rfl⟩ := List.mem_map.mp hws
          exact A.once nd (hw us hus)
        · obtain ⟨us, hus, rfl⟩ := List.mem_map.mp hws
          have up := (hw us hus).up (rk := rk) fun t ht => hr1 t (List.mem_filter.mp ht).1
          have := hr2 g
          unfold nums
          rw [List.length_map]
          omega
      · exact ⟨ls, [], rfl, e4, ⟨_, hls, .nil⟩, (fun ws hw => nomatch hw), fun ws hw => nomatch hw⟩
end
end K32
set_option maxRecDepth 100000
namespace K32
open PySem L2 L2.Wy
open PyProof.Rows (boot_list boot_int boot_bool boot_tuple boot_str boot_dict boot_all)
theorem cut_few (xs : List V) : (cutV xs (some 2) (some 16)).length ≤ 14 := by
  unfold cutV
  rw [show (2 : Int) = ((2 : Nat) : Int) from rfl, show (16 : Int) = ((16 : Nat) : Int) from rfl, HT.sIx_nat, HT.sIx_nat, List.length_take, List.length_drop]
  omega
theorem cut_mem {xs : List V} {lo hi : Option Int} {v : V} (h : v ∈ cutV xs lo hi) : v ∈ xs := List.mem_of_mem_drop (List.mem_of_mem_take h)
def lawM (c : Int) : Int := if c % 2 = 0 then 6 else 30
section
variable {P : Program} {w : World} {K : PySem.W.Frag} {mg : Str → Option Value} {base : Heap}
abbrev s_law : Stmt := top 43
theorem sc_law : FnScope ["_law_script", "_law_first", "_law_second", "_law_net_here", "_law_listeners", "_law_k", "_law_name", "_law_fallen"] ["_law_script"] (defScope s_law) := ⟨rfl, rfl, rfl, by decide +kernel, rfl, by decide +kernel, by decide +kernel⟩
def sp_law (K : PySem.W.Frag) : Sp := fun vs H Q _ => ∃ (a : Addr) (ns : List Int), vs = [.ref a] ∧ SqL K H a (ns.map V.int) ∧ ns.length ≤ 63 ∧ ∀ H', Q (.bl true) H'
theorem ok_law {c : Cl} {f : Addr} {fd : FuncData} (F : Fun K "law" "law" s_law f fd) (T : TxtA mg) (D_Lcell_at : Df P w K mg base 1 "_law_cell_at" ["_law_script", "_law_k"] (sp_Lcell_at K)) (D_Lmix : Df P w K mg base 1 "_law_mix" ["_law_cell", "_law_k"] sp_Lmix) (D_Lnet : Df P w K mg base 5 "_law_net" ["_law_first", "_law_cells"] (sp_Lnet K c))
    (D_Lright : Df P w K mg base 6 "_law_right" ["_law_net_here", "_law_name", "_law_fallen"] (sp_Lright c)) (D_Net_ties : Dm P w K mg base 1 c.net "ties" ["self"] (sp_ties c)) : FnOk P w K mg base CX0 7 f fd ["_law_script"] (sp_law K) := by
  refine F.ok sc_law (fun vs H Q E h => ?_) (fun cdv A outer s H vs Q E hr h => ?_)
  · obtain ⟨a, ns, rfl, _⟩ := h
    rfl
  · obtain ⟨a, cs, rfl, ha, hcs, q⟩ := h
    have ND := sc_law.nd
    refine ⟨_, (pss_cons (ps_set (i := 1) ND rfl (by first | exact Or.inl rfl | exact Or.inr rfl) (pe_callD D_Lcell_at (hr.mono (by decide)) rfl (pa_cons (pv 0) (pa_cons pe_int pa_nil))))
  (pss_cons (ps_set (i := 2) ND rfl (by first | exact Or.inl rfl | exact Or.inr rfl) (pe_callD D_Lcell_at (hr.mono (by decide)) rfl (pa_cons (pv 0) (pa_cons pe_int pa_nil))))
  (pss_cons (ps_asg (pe_callD D_Lnet (hr.mono (by decide)) rfl (pa_cons (pv 1) (pa_cons (pe_slice (sllS K) (pv 0) (po_some pe_int) (po_some pe_int)) pa_nil))) (pgtK K (n := 2) rfl (pgs_cons (pg_name (i := 3) ND rfl (by first | exact Or.inl rfl | exact Or.inr rfl)) (pgs_cons (pg_name (i := 4) ND rfl (by first | exact Or.inl rfl | exact Or.inr rfl)) pgs_nil))))
  (pss_cons (ps_for PassesOwn.never rfl (pi_enum K rfl T.n_enumerate (pa_cons (pe_slice (sllS K) (pv 4) po_none (po_some pe_int)) pa_nil)) (pgtK K (n := 2) rfl (pgs_cons (pg_name (i := 5) ND rfl (by first | exact Or.inl rfl | exact Or.inr rfl)) (pgs_cons (pg_name (i := 6) ND rfl (by first | exact Or.inl rfl | exact Or.inr rfl)) pgs_nil)))
    (pss_cons (ps_setComp (i := 7) ND rfl rfl rfl (compScope_of (nT := 1) (js := [2, 5]) (N' := ["_law_row", "_law_second", "_law_k"]) rfl rfl (by kernel_rfl)) (pilK K (pe_meth0D (pv 3) D_Net_ties (hr.mono (by decide))))
    (fun _ _ _ _ _ => (pg_name (i := 0) (show List.Nodup (["_law_row", "_law_second", "_law_k"] : List Str) by decide +kernel) rfl (by first | exact Or.inl rfl | exact Or.inr rfl)))
    (fun _ _ _ _ _ => (pif_one (pt_cmpR op_eq (pe_op op_mod (pe_callD D_Lmix (hr.mono (by decide)) rfl (pa_cons (pv 1) (pa_cons (pe_op op_add (pe_op op_mul pe_int (pv 2)) (pe_ix (ixtK K) (pv 0) pe_int (fun _ _ => rfl))) pa_nil))) (pe_ix (ixlK K) (pe_lstS (pa_cons pe_int (pa_cons pe_int pa_nil))) (pe_op op_mod (pv 1) pe_int) (fun _ _ => rfl))) pe_int (nomark _))))
    (fun _ _ _ _ _ => (pe_ix (ixtK K) (pv 0) pe_int (fun _ _ => rfl))))
  (pss_one (ps_if (pt_not (pt_val (pe_callD D_Lright (hr.mono (by decide)) rfl (pa_cons (pv 3) (pa_cons (pv 6) (pa_cons (pv 7) pa_nil))))))
    (pss_one (ps_ret pe_bl))
    pss_nil))))
  (pss_one (ps_ret pe_bl)))))), ?_⟩
    refine ⟨_, rfl, a, 0, cs, rfl, by decide, ha, fun c0 => ?_⟩
    refine ⟨_, rfl, a, 1, cs, rfl, by decide, ha, fun c1 => ?_⟩
    refine ⟨_, rfl, _, rfl, _, rfl, _, rfl, a, _, rfl, ha, fun lc H1 e1 h1 hlc => ?_⟩
    refine ⟨c0, lc, _, rfl, SqL.of hlc, fun v hv => ?_, cut_few _, fun tp n dp dt ll H2 S e2 htp N2 hll L => ?_⟩
    · obtain ⟨z, _, rfl⟩ := List.mem_map.mp (cut_mem hv)
      exact ⟨z, rfl⟩
    refine ⟨tp, _, rfl, SqT.of htp, rfl, _, _, rfl, _, [], rfl, rfl, ?_⟩
    obtain ⟨dx, hN⟩ := id N2.ins
    refine ⟨_, rfl, _, rfl, ll, _, rfl, SqL.of hll, fun le H3 e3 h3 hle => ⟨le, _, rfl, hle, ?_⟩⟩
    have ecut : cutV (S.lis.map V.str) none (some 2) = (S.lis.take 2).map V.str := by
      rw [show (2 : Int) = ((2 : Nat) : Int) from rfl, cut_take, List.map_take]
    rw [ecut] at hle
    refine for_enum (K := K) (xs := (S.lis.take 2).map V.str) (fun i σ H' => (∃ o5 o6 o7, σ = [some (.ref a), some (.int c0), some (.int c1), some (.ref n), some (.ref ll), o5, o6, o7]) ∧ Same H3 H')
      ⟨⟨none, none, none, rfl⟩, Same.refl _⟩ (fun i σ H' _ h => SqL.of (h.2 _ _ hle)) ?_ ?_
    · rintro i x T' σ H4 ex ⟨⟨o5, o6, o7, rfl⟩, e4⟩ hT
      have hi : i < 2 := by
        have := (List.getElem?_eq_some_iff.mp ex).1
        rw [List.length_map, List.length_take] at this
        omega
      obtain ⟨g, eg, rfl⟩ : ∃ m, (S.lis.take 2)[i]? = some m ∧ x = .str m := by
        rw [List.getElem?_map] at ex
        cases hm : (S.lis.take 2)[i]? with
        | none => rw [hm] at ex; cases ex
        | some m => rw [hm] at ex; exact ⟨m, rfl, by simpa using ex.symm⟩
      have hg : g ∈ S.lis := List.mem_of_mem_take (List.mem_of_getElem? eg)
      have eT : Same H4 (upd H4 T' (.tup [.int i, .str g])) := same_upd (Same.refl _) hT
      generalize upd H4 T' (.tup [.int i, .str g]) = H5 at eT
      have e35 := e4.trans eT
      have e25 := e3.trans e35
      have N5 := N2.mono e25
      have hz : S.ties.length ≤ 1000 := by have := L.cnt; omega
      refine ⟨_, rfl, n, dx, _, rfl, e25 _ _ hN, rfl, n, dp, dt, S, rfl, N5, hz, fun lt H6 e6 h6 hlt => ?_⟩
      obtain ⟨ys, hys, hpy⟩ := hlt
      have hyl := Paired.length hpy
      have m1 : ∀ c : Int, 0 < lawM c := fun c => by unfold lawM; split <;> decide
      have m2 : ∀ c : Int, atI [V.int 6, V.int 30] (c % 2) = some (.int (lawM c)) := fun c => by
        have c3 : 0 ≤ c % 2 := Int.emod_nonneg _ (by decide)
        have c4 : c % 2 < 2 := Int.emod_lt_of_pos _ (by decide)
        unfold lawM
        by_cases h : c % 2 = 0
        · rw [if_pos h, h]; rfl
        · rw [if_neg h, show c % 2 = 1 by omega]; rfl
      refine ⟨lt, rfl, ⟨_, SqL.of hys⟩, compG_list (K := K) (fun j => decide (mixL c1 (20 * (i : Int) + (S.ties.getD j (0, "", "", 0)).1) % lawM c1 = 0)) (fun j => .int (S.ties.getD j (0, "", "", 0)).1) hys (by omega) (fun j x H7 ex e7 => ?_) (fun lf H7 h7 e7 hlf => ?_)⟩
      · obtain ⟨t, et, p, rfl, hpt⟩ := Paired.at hpy ex
        have egt : S.ties.getD j (0, "", "", 0) = t := by rw [List.getD_eq_getElem?_getD, et]; rfl
        rw [egt]
        have hp7 := e7 _ _ hpt
        obtain ⟨t0, t1⟩ := L.num t (List.mem_of_getElem? et)
        refine ⟨_, rfl, _, rfl, _, _, rfl, rfl, .inl ⟨by decide, by decide⟩, _, rfl, p, _, 0, _, rfl, rfl, SqT.of hp7, rfl, _, _, rfl, rfl, c1, 20 * (i : Int) + t.1, rfl, by omega, by omega, fun H8 e8 => ?_⟩
        refine ⟨(by show 2 ≤ sizeLine; decide), fun lq H9 e9 h9 hlq => ?_⟩
        refine ⟨_, rfl, _, _, rfl, rfl, (by show (0 : Int) < 2; decide), lq, _, _, _, rfl, rfl, SqL.of hlq, m2 c1, _, _, rfl, rfl, m1 c1, rfl, _, rfl, ?_⟩
        refine ite2 (fun g0 => ?_) (fun g0 => ?_)
        · refine ⟨_, rfl, p, _, 0, _, rfl, rfl, SqT.of (e9 _ _ (e8 _ _ hp7)), rfl, ?_, rfl, e8.trans e9⟩
          have := of_decide_eq_true g0
          injection this with this
          exact decide_eq_true this
        · refine ⟨decide_eq_false fun z => g0 (decide_eq_true (by rw [← z])), e8.trans e9⟩
      · rw [hyl, range_filter_map S.ties (fun t => decide (mixL c1 (20 * (i : Int) + t.1) % lawM c1 = 0)) (fun t => V.int t.1) _ _ fun j t et => by rw [List.getD_eq_getElem?_getD, et]; exact ⟨rfl, rfl⟩] at hlf
        have e57 := e6.trans e7
        refine ⟨_, rfl, _, rfl, _, rfl, n, dp, dt, S, g, lf, (S.ties.filter fun t => decide (mixL c1 (20 * (i : Int) + t.1) % lawM c1 = 0)).map (·.1), rfl, N5.mono e57, L, hg, by rw [hlf, List.map_map]; rfl, ?_, fun H8 e8 => ⟨_, rfl, iteF ⟨⟨_, _, _, rfl⟩, e35.trans (e57.trans e8)⟩⟩⟩
        rw [List.length_map]
        have := L.cnt
        exact Nat.le_trans (List.length_filter_le _ _) (by omega)
    · rintro σ H4 ⟨⟨o5, o6, o7, rfl⟩, e4⟩
      exact q _
end
end K32
set_option maxRecDepth 100000
namespace K32
open PySem L2
section
variable {P : Program} {w : World} {K : PySem.W.Frag} {mg : Str → Option Value} {base h : Heap}
def In0 (K : PySem.W.Frag) (C : Addr) (qual : Str) (st : Stmt) : Prop := ∃ f fd, Mk K C f ∧ Fun K "__init__" qual st f fd
theorem in0_mk {C : Addr} {qual : Str} {st : Stmt} {f : Addr} {oc : Value} {od an : Option Addr} {osl : Array (Option Value)} {kV doc pm cdv ct : Value} (mk : PySem.W.makesIn K C = true) (a : PySem.W.findIn K (.ref C) "__init__" = some (some (.ref f))) (i : PySem.W.isFn K (.ref f) = true) (kc : PySem.W.keepIn K (.ref C) = true)
    (l : K.lookup f = some ⟨oc, od, .func (PySem.W.fnOf "__init__" qual (defArgs st) (defBody st) (defScope st) .none kV doc pm an cdv ct), osl⟩)
    (c : PySem.W.codeIn K cdv qual = true) (k : PySem.W.keepIn K (.ref f) = true) : In0 K C qual st := ⟨f, _, ⟨mk, a, i, kc⟩, fun_mk l c k⟩
def MeD0 (K : PySem.W.Frag) (C : Addr) (m qual : Str) (st : Stmt) : Prop := ∃ (f T : Addr) (t : Tok) (kV doc pm : Value) (an : Option Addr) (cdv ct : Value) (oc : Value) (od : Option Addr) (osl : Array (Option Value)) (tc : Value) (td : Option Addr) (n : Nat) (tsl : Array (Option Value)), Meth K C m f ∧
  K.lookup f = some ⟨oc, od, .func (PySem.W.fnOf m qual (defArgs st) (defBody st) (defScope st) (.ref T) kV doc pm an cdv ct), osl⟩ ∧ PySem.W.codeIn K cdv qual = true ∧ PySem.W.keepIn K (.ref f) = true ∧ K.lookup T = some ⟨tc, td, .seq #[.int 1 t] n, tsl⟩
theorem meD0_mk {C : Addr} {m qual : Str} {st : Stmt} {f T : Addr} {t : Tok} {oc tc : Value} {od an td : Option Addr} {osl tsl : Array (Option Value)} {n : Nat} {kV doc pm cdv ct : Value} (a : PySem.W.findIn K (.ref C) m = some (some (.ref f))) (i : PySem.W.isFn K (.ref f) = true)
    (l : K.lookup f = some ⟨oc, od, .func (PySem.W.fnOf m qual (defArgs st) (defBody st) (defScope st) (.ref T) kV doc pm an cdv ct), osl⟩)
    (c : PySem.W.codeIn K cdv qual = true) (k : PySem.W.keepIn K (.ref f) = true) (d : K.lookup T = some ⟨tc, td, .seq #[.int 1 t] n, tsl⟩) : MeD0 K C m qual st := ⟨f, T, t, kV, doc, pm, an, cdv, ct, oc, od, osl, tc, td, n, tsl, ⟨a, i, k⟩, l, c, k, d⟩
theorem meD0_dmX {C : Addr} {x qual : Str} {st : Stmt} {ps : List Str} {sp : Sp} {k : Nat} (F : MeD0 K C x qual st) (cl : Cls K C)
    (hb : ∀ (T : Addr) (t : Tok) (kV doc pm : Value) (an : Option Addr) (cdv ct : Value) (us : List Value), us.length = ps.length → ∃ kk, bindArgs (PySem.W.fnOf x qual (defArgs st) (defBody st) (defScope st) (.ref T) kV doc pm an cdv ct) ⟨us, []⟩ = seqItems? (.ref T) >>= kk ∧ kk (some #[.int 1 t]) = pure (ps.zip us))
    (ok : ∀ f fd, FunD K x qual st f fd → FnOk P w K mg base (CXE P w) k f fd ps sp) : DmX P w K mg base k C x ps sp := by
  obtain ⟨f, T, t, kV, doc, pm, an, cdv, ct, oc, od, osl, tc, td, n, tsl, m, l, c, kp, d⟩ := F
  refine ⟨f, _, cl, m, fun s us hin hl => ?_, ok f _ ⟨⟨oc, od, .ref T, kV, doc, pm, an, cdv, ct, osl, rfl, l, c⟩, kp⟩⟩
  rw [List.append_nil] at hl ⊢
  obtain ⟨kk, h1, h2⟩ := hb T t kV doc pm an cdv ct us hl
  exact BindsTo.of_defaults rfl (hin _ _ d) rfl h1 h2
def FnD0 (K : PySem.W.Frag) (x qual : Str) (st : Stmt) : Prop := ∃ (f T : Addr) (kV doc pm : Value) (an : Option Addr) (cdv ct : Value) (oc : Value) (od : Option Addr) (osl : Array (Option Value)) (tc : Value) (td : Option Addr) (n : Nat) (tsl : Array (Option Value)), PySem.W.nsIn K mainGlobals x = some (some (.ref f)) ∧
  K.lookup f = some ⟨oc, od, .func (PySem.W.fnOf x qual (defArgs st) (defBody st) (defScope st) (.ref T) kV doc pm an cdv ct), osl⟩ ∧ PySem.W.codeIn K cdv qual = true ∧ PySem.W.keepIn K (.ref f) = true ∧ K.lookup T = some ⟨tc, td, .seq #[.none] n, tsl⟩
theorem fnD0_mk {x qual : Str} {st : Stmt} {f T : Addr} {oc tc : Value} {od an td : Option Addr} {osl tsl : Array (Option Value)} {n : Nat} {kV doc pm cdv ct : Value} (a : PySem.W.nsIn K mainGlobals x = some (some (.ref f)))
    (l : K.lookup f = some ⟨oc, od, .func (PySem.W.fnOf x qual (defArgs st) (defBody st) (defScope st) (.ref T) kV doc pm an cdv ct), osl⟩)
    (c : PySem.W.codeIn K cdv qual = true) (k : PySem.W.keepIn K (.ref f) = true) (d : K.lookup T = some ⟨tc, td, .seq #[.none] n, tsl⟩) : FnD0 K x qual st := ⟨f, T, kV, doc, pm, an, cdv, ct, oc, od, osl, tc, td, n, tsl, a, l, c, k, d⟩
theorem fnD0_df {x qual : Str} {st : Stmt} {ps : List Str} {sp : Sp} {k : Nat} (F : FnD0 K x qual st) (X : K.In h) (G : h.Ns mainGlobals mg)
    (hb : ∀ (T : Addr) (kV doc pm : Value) (an : Option Addr) (cdv ct : Value) (us : List Value), us.length = ps.length → ∃ kk, bindArgs (PySem.W.fnOf x qual (defArgs st) (defBody st) (defScope st) (.ref T) kV doc pm an cdv ct) ⟨us, []⟩ = seqItems? (.ref T) >>= kk ∧ kk (some #[.none]) = pure (ps.zip us))
    (ok : ∀ f fd, FunD K x qual st f fd → FnOk P w K mg base CX0 k f fd ps sp) : Df P w K mg base k x ps sp := by
  obtain ⟨f, T, kV, doc, pm, an, cdv, ct, oc, od, osl, tc, td, n, tsl, a, l, c, kp, d⟩ := F
  refine ⟨f, _, PySem.W.mg_of X G a, kp, fun s us hin hl => ?_, ok f _ ⟨⟨oc, od, .ref T, kV, doc, pm, an, cdv, ct, osl, rfl, l, c⟩, kp⟩⟩
  rw [List.append_nil] at hl ⊢
  obtain ⟨kk, h1, h2⟩ := hb T kV doc pm an cdv ct us hl
  exact BindsTo.of_defaults rfl (hin _ _ d) rfl h1 h2
theorem meD0_dmXd {C : Addr} {x qual : Str} {st : Stmt} {ps : List Str} {sp : Sp} {k : Nat} (F : MeD0 K C x qual st) (cl : Cls K C)
    (hb : ∀ (T : Addr) (t : Tok) (kV doc pm : Value) (an : Option Addr) (cdv ct : Value) (us : List Value), us.length + 1 = ps.length → ∃ kk, bindArgs (PySem.W.fnOf x qual (defArgs st) (defBody st) (defScope st) (.ref T) kV doc pm an cdv ct) ⟨us, []⟩ = seqItems? (.ref T) >>= kk ∧ kk (some #[.int 1 t]) = pure (ps.zip (us ++ [.int 1 t])))
    (ok : ∀ f fd, FunD K x qual st f fd → FnOk P w K mg base (CXE P w) k f fd ps sp) : DmXd P w K mg base k C x ps [.int 1] sp := by
  obtain ⟨f, T, t, kV, doc, pm, an, cdv, ct, oc, od, osl, tc, td, n, tsl, m, l, c, kp, d⟩ := F
  refine ⟨f, _, [.int 1 t], cl, m, fun s us hin hl => ?_, .cons ⟨t, rfl⟩ .nil, ok f _ ⟨⟨oc, od, .ref T, kV, doc, pm, an, cdv, ct, osl, rfl, l, c⟩, kp⟩⟩
  obtain ⟨kk, h1, h2⟩ := hb T t kV doc pm an cdv ct us (by rw [List.length_append] at hl; exact hl)
  exact BindsTo.of_defaults rfl (hin _ _ d) rfl h1 h2
theorem fn0_df {x qual : Str} {st : Stmt} {ps : List Str} {sp : Sp} {k : Nat} (F : Fn0 K x qual st) (X : K.In h) (G : h.Ns mainGlobals mg)
    (hb : ∀ (kV doc pm : Value) (an : Option Addr) (cdv ct : Value) (us : List Value), us.length = ps.length → bindArgs (PySem.W.fnOf x qual (defArgs st) (defBody st) (defScope st) .none kV doc pm an cdv ct) ⟨us, []⟩ = pure (ps.zip us))
    (ok : ∀ f fd, Fun K x qual st f fd → FnOk P w K mg base CX0 k f fd ps sp) : Df P w K mg base k x ps sp := by
  obtain ⟨f, fd, a, F⟩ := F
  exact ⟨f, fd, PySem.W.mg_of X G a, F.kp, F.binds hb, ok f fd F⟩
theorem me0_dm {C : Addr} {x qual : Str} {st : Stmt} {ps : List Str} {sp : Sp} {k : Nat} (F : Me0 K C x qual st) (cl : Cls K C)
    (hb : ∀ (kV doc pm : Value) (an : Option Addr) (cdv ct : Value) (us : List Value), us.length = ps.length → bindArgs (PySem.W.fnOf x qual (defArgs st) (defBody st) (defScope st) .none kV doc pm an cdv ct) ⟨us, []⟩ = pure (ps.zip us))
    (ok : ∀ f fd, Fun K x qual st f fd → FnOk P w K mg base CX0 k f fd ps sp) : Dm P w K mg base k C x ps sp := by
  obtain ⟨f, fd, m, F⟩ := F
  exact ⟨f, fd, cl, m, F.binds hb, ok f fd F⟩
theorem in0_dk {C : Addr} {x qual : Str} {st : Stmt} {ps : List Str} {sp : Sp} {k : Nat} (F : In0 K C qual st) (X : K.In h) (G : h.Ns mainGlobals mg) (aC : PySem.W.nsIn K mainGlobals x = some (some (.ref C)))
    (hb : ∀ (kV doc pm : Value) (an : Option Addr) (cdv ct : Value) (us : List Value), us.length = ps.length → bindArgs (PySem.W.fnOf "__init__" qual (defArgs st) (defBody st) (defScope st) .none kV doc pm an cdv ct) ⟨us, []⟩ = pure (ps.zip us))
    (ok : ∀ f fd, Fun K "__init__" qual st f fd → FnOk P w K mg base CX0 k f fd ps sp) : Dk P w K mg base k x C ps sp := by
  obtain ⟨f, fd, m, F⟩ := F
  exact ⟨f, fd, PySem.W.mg_of X G aC, m, F.binds hb, ok f fd F⟩
theorem me0_dmX {C : Addr} {x qual : Str} {st : Stmt} {ps : List Str} {sp : Sp} {k : Nat} (F : Me0 K C x qual st) (cl : Cls K C)
    (hb : ∀ (kV doc pm : Value) (an : Option Addr) (cdv ct : Value) (us : List Value), us.length = ps.length → bindArgs (PySem.W.fnOf x qual (defArgs st) (defBody st) (defScope st) .none kV doc pm an cdv ct) ⟨us, []⟩ = pure (ps.zip us))
    (ok : ∀ f fd, Fun K x qual st f fd → FnOk P w K mg base (CXE P w) k f fd ps sp) : DmX P w K mg base k C x ps sp := by
  obtain ⟨f, fd, m, F⟩ := F
  exact ⟨f, fd, cl, m, F.binds hb, ok f fd F⟩
end
@[elab_as_elim] theorem len1 {α : Type} {P : List α → Prop} : ∀ (us : List α), us.length = 1 → (∀ a, P [a]) → P us
  | [_], _, f => f _
@[elab_as_elim] theorem len2 {α : Type} {P : List α → Prop} : ∀ (us : List α), us.length = 2 → (∀ a b, P [a, b]) → P us
  | [_, _], _, f => f _ _
@[elab_as_elim] theorem len3 {α : Type} {P : List α → Prop} : ∀ (us : List α), us.length = 3 → (∀ a b c, P [a, b, c]) → P us
  | [_, _, _], _, f => f _ _ _
@[elab_as_elim] theorem len4 {α : Type} {P : List α → Prop} : ∀ (us : List α), us.length = 4 → (∀ a b c d, P [a, b, c, d]) → P us
  | [_, _, _, _], _, f => f _ _ _ _
@[elab_as_elim] theorem len5 {α : Type} {P : List α → Prop} : ∀ (us : List α), us.length = 5 → (∀ a b c d e, P [a, b, c, d, e]) → P us
  | [_, _, _, _, _], _, f => f _ _ _ _ _
@[elab_as_elim] theorem len6 {α : Type} {P : List α → Prop} : ∀ (us : List α), us.length = 6 → (∀ a b c d e f, P [a, b, c, d, e, f]) → P us
  | [_, _, _, _, _, _], _, f => f _ _ _ _ _ _
theorem all_mk {l : PySem.W.OpenLaw} {w : World} {K : PySem.W.Frag} {h : Heap} {mg : Str → Option Value} {fa CN CP CH CL : Addr} {xNN xTk xOH xTM xIH xRM xNo : Addr} {t_LETTERS t_LONGEST_NAME t_MOST_POSTS t_MOST_LISTENERS t_MOST_TIES t_LONGEST_DELAY : Tok} (X : K.In h) (G : h.Ns mainGlobals mg) (hfa : mg "law" = some (.ref fa))
    (aCN : PySem.W.nsIn K mainGlobals "Net" = some (some (.ref CN)))
    (aCP : PySem.W.nsIn K mainGlobals "Post" = some (some (.ref CP)))
    (aCH : PySem.W.nsIn K mainGlobals "House" = some (some (.ref CH)))
    (aCL : PySem.W.nsIn K mainGlobals "Listener" = some (some (.ref CL)))
    (pgCN : PySem.W.plainGet K CN Str.empty = true)
    (hdCN : PySem.W.hasDictIn K CN = true)
    (poCN : PySem.W.plainOver K CN = true)
    (saCN : PySem.W.findIn K (.ref CN) "__setattr__" = some (some (.builtin "object.__setattr__")))
    (pgCP : PySem.W.plainGet K CP Str.empty = true)
    (hdCP : PySem.W.hasDictIn K CP = true)
    (poCP : PySem.W.plainOver K CP = true)
    (saCP : PySem.W.findIn K (.ref CP) "__setattr__" = some (some (.builtin "object.__setattr__")))
    (pgCH : PySem.W.plainGet K CH Str.empty = true)
    (hdCH : PySem.W.hasDictIn K CH = true)
    (poCH : PySem.W.plainOver K CH = true)
    (saCH : PySem.W.findIn K (.ref CH) "__setattr__" = some (some (.builtin "object.__setattr__")))
    (pgCL : PySem.W.plainGet K CL Str.empty = true)
    (hdCL : PySem.W.hasDictIn K CL = true)
    (poCL : PySem.W.plainOver K CL = true)
    (saCL : PySem.W.findIn K (.ref CL) "__setattr__" = some (some (.builtin "object.__setattr__")))
    (nCN_kept_posts : PySem.W.findIn K (.ref CN) "kept_posts" = some none)
    (nCN_kept_ties : PySem.W.findIn K (.ref CN) "kept_ties" = some none)
    (nCN_next_number : PySem.W.findIn K (.ref CN) "next_number" = some none)
    (nCP_name : PySem.W.findIn K (.ref CP) "name" = some none)
    (nCH_name : PySem.W.findIn K (.ref CH) "name" = some none)
    (nCL_name : PySem.W.findIn K (.ref CL) "name" = some none)
    (e_NoName : PySem.W.nsIn K mainGlobals "NoName" = some (some (.ref xNN)))
    (xc_NoName : PySem.W.excIn K xNN mroVE "ValueError.__new__" = true)
    (e_Taken : PySem.W.nsIn K mainGlobals "Taken" = some (some (.ref xTk)))
    (xc_Taken : PySem.W.excIn K xTk mroVE "ValueError.__new__" = true)
    (e_OneHouse : PySem.W.nsIn K mainGlobals "OneHouse" = some (some (.ref xOH)))
    (xc_OneHouse : PySem.W.excIn K xOH mroVE "ValueError.__new__" = true)
    (e_TooMany : PySem.W.nsIn K mainGlobals "TooMany" = some (some (.ref xTM)))
    (xc_TooMany : PySem.W.excIn K xTM mroVE "ValueError.__new__" = true)
    (e_IntoHouse : PySem.W.nsIn K mainGlobals "IntoHouse" = some (some (.ref xIH)))
    (xc_IntoHouse : PySem.W.excIn K xIH mroVE "ValueError.__new__" = true)
    (e_RingMade : PySem.W.nsIn K mainGlobals "RingMade" = some (some (.ref xRM)))
    (xc_RingMade : PySem.W.excIn K xRM mroVE "ValueError.__new__" = true)
    (e_NoNumber : PySem.W.nsIn K mainGlobals "NoNumber" = some (some (.ref xNo)))
    (xc_NoNumber : PySem.W.excIn K xNo mroVE "ValueError.__new__" = true)
    (g_LETTERS : PySem.W.nsIn K mainGlobals "LETTERS" = some (some (.str "abcdefghijklmnopqrstuvwxyz" t_LETTERS)))
    (g_LONGEST_NAME : PySem.W.nsIn K mainGlobals "LONGEST_NAME" = some (some (.int 8 t_LONGEST_NAME)))
    (g_MOST_POSTS : PySem.W.nsIn K mainGlobals "MOST_POSTS" = some (some (.int 20 t_MOST_POSTS)))
    (g_MOST_LISTENERS : PySem.W.nsIn K mainGlobals "MOST_LISTENERS" = some (some (.int 8 t_MOST_LISTENERS)))
    (g_MOST_TIES : PySem.W.nsIn K mainGlobals "MOST_TIES" = some (some (.int 40 t_MOST_TIES)))
    (g_LONGEST_DELAY : PySem.W.nsIn K mainGlobals "LONGEST_DELAY" = some (some (.int 99 t_LONGEST_DELAY)))
    (k_str_str : PySem.W.kitOne K (.type "str") (.type "str") = some true)
    (k_int_int : PySem.W.kitOne K (.type "int") (.type "int") = some true)
    (k_int_bool : PySem.W.kitOne K (.type "int") (.type "bool") = some false)
    (ne_ph : CP ≠ CH)
    (ne_pl : CP ≠ CL)
    (ne_hl : CH ≠ CL)
    (z_len : PySem.W.nsIn K mainGlobals "len" = some none)
    (z_isinstance : PySem.W.nsIn K mainGlobals "isinstance" = some none)
    (z_str : PySem.W.nsIn K mainGlobals "str" = some none)
    (z_all : PySem.W.nsIn K mainGlobals "all" = some none)
    (z_list : PySem.W.nsIn K mainGlobals "list" = some none)
    (z_int : PySem.W.nsIn K mainGlobals "int" = some none)
    (z_bool : PySem.W.nsIn K mainGlobals "bool" = some none)
    (z_enumerate : PySem.W.nsIn K mainGlobals "enumerate" = some none)
    (z_range : PySem.W.nsIn K mainGlobals "range" = some none)
    (z_sorted : PySem.W.nsIn K mainGlobals "sorted" = some none)
    (z_dict : PySem.W.nsIn K mainGlobals "dict" = some none)
    (f0 : Fn0 K "is_name" "is_name" s_is_name)
    (f1 : Me0 K CP "reads" "Post.reads" s_Post_reads)
    (f2 : Me0 K CH "reads" "Post.reads" s_Post_reads)
    (f3 : Me0 K CL "reads" "Listener.reads" s_Listener_reads)
    (f4 : Me0 K CP "hears" "Post.hears" s_Post_hears)
    (f5 : Me0 K CH "hears" "House.hears" s_House_hears)
    (f6 : Me0 K CL "hears" "Post.hears" s_Post_hears)
    (f7 : In0 K CP "Post.__init__" s_Post___init__)
    (f8 : In0 K CH "Post.__init__" s_Post___init__)
    (f9 : In0 K CL "Post.__init__" s_Post___init__)
    (f10 : In0 K CN "Net.__init__" s_Net___init__)
    (f11 : Me0 K CN "check_new_name" "Net.check_new_name" s_Net_check_new_name)
    (f12 : Me0 K CN "names" "Net.names" s_Net_names)
    (f13 : Me0 K CN "listeners" "Net.listeners" s_Net_listeners)
    (f14 : Me0 K CN "home" "Net.home" s_Net_home)
    (f15 : Me0 K CN "put_in" "Net.put_in" s_Net_put_in)
    (f16 : Me0 K CN "post" "Net.post" s_Net_post)
    (f17 : Me0 K CN "listener" "Net.listener" s_Net_listener)
    (f18 : Me0 K CN "house" "Net.house" s_Net_house)
    (f19 : Fn0 K "is_whole" "is_whole" s_is_whole)
    (f20 : Fn0 K "is_delay" "is_delay" s_is_delay)
    (f21 : Me0 K CN "ties" "Net.ties" s_Net_ties)
    (f22 : Fn0 K "led_to" "led_to" s_led_to)
    (f23 : Me0 K CN "check_there" "Net.check_there" s_Net_check_there)
    (f24 : Me0 K CN "check_ends" "Net.check_ends" s_Net_check_ends)
    (f25 : MeD0 K CN "tie" "Net.tie" s_Net_tie)
    (f26 : MeD0 K CN "tie" "Net.tie" s_Net_tie)
    (f27 : Fn0 K "standing_ties" "standing_ties" s_standing_ties)
    (f28 : Fn0 K "step_over" "step_over" s_step_over)
    (f29 : Fn0 K "tie_out_of" "tie_out_of" s_tie_out_of)
    (f30 : Fn0 K "ties_between" "ties_between" s_ties_between)
    (f31 : Fn0 K "one_way" "one_way" s_one_way)
    (f32 : Fn0 K "used_with" "used_with" s_used_with)
    (f33 : Fn0 K "reached_from" "reached_from" s_reached_from)
    (f34 : Fn0 K "parted_ways" "parted_ways" s_parted_ways)
    (f35 : Fn0 K "ties_by_post" "ties_by_post" s_ties_by_post)
    (f36 : FnD0 K "ways" "ways" s_ways)
    (f37 : Fn0 K "_law_cell_at" "_law_cell_at" s_Lcell_at)
    (f38 : Fn0 K "_law_mix" "_law_mix" s_Lmix)
    (f39 : Fn0 K "_law_net" "_law_net" s_Lnet)
    (f40 : Fn0 K "_law_count" "_law_count" s_Lcount)
    (f41 : Fn0 K "_law_right" "_law_right" s_Lright)
    (fl : Fn0 K "law" "law" s_law) :
    ∃ fd : FuncData, (∀ (s : Shared) (v : Value), BindsTo s fd ⟨[v], []⟩ [("_law_script", v)]) ∧ ∀ base : Heap, K.In base → base.Ns mainGlobals mg → FnOk l.prog w K mg base CX0 7 fa fd ["_law_script"] (sp_law K) := by
  obtain ⟨fL, fdL, aL, FL⟩ := fl
  have e := hfa.symm.trans (PySem.W.mg_of X G aL)
  cases e
  have clCN : Cls K CN := ⟨pgCN, hdCN, poCN, saCN⟩
  have clCP : Cls K CP := ⟨pgCP, hdCP, poCP, saCP⟩
  have clCH : Cls K CH := ⟨pgCH, hdCH, poCH, saCH⟩
  have clCL : Cls K CL := ⟨pgCL, hdCL, poCL, saCL⟩
  have O : Cl.Ok K ⟨CN, CP, CH, CL⟩ := ⟨clCN, clCP, clCH, clCL, nCN_kept_posts, nCN_kept_ties, nCN_next_number, nCP_name, nCH_name, nCL_name, ne_ph, ne_pl, ne_hl⟩
  have TL : TxtL mg := ⟨PySem.W.mg_none_of X G z_len, PySem.W.mg_none_of X G z_isinstance, PySem.W.mg_none_of X G z_str, PySem.W.mg_none_of X G z_all, PySem.W.mg_none_of X G z_list⟩
  have TG : TxtG mg := ⟨⟨_, PySem.W.mg_of X G g_LETTERS⟩, ⟨_, PySem.W.mg_of X G g_LONGEST_NAME⟩, ⟨_, PySem.W.mg_of X G g_MOST_POSTS⟩, ⟨_, PySem.W.mg_of X G g_MOST_LISTENERS⟩⟩
  have TK : TxtK K := ⟨k_str_str⟩
  have TX : TxtX K mg ⟨xNN, xTk, xOH, xTM⟩ := ⟨PySem.W.mg_of X G e_NoName, xc_NoName, PySem.W.mg_of X G e_Taken, xc_Taken, PySem.W.mg_of X G e_OneHouse, xc_OneHouse, PySem.W.mg_of X G e_TooMany, xc_TooMany⟩
  have TN : TxtN mg := ⟨PySem.W.mg_none_of X G z_isinstance, PySem.W.mg_none_of X G z_int, PySem.W.mg_none_of X G z_bool, PySem.W.mg_none_of X G z_len⟩
  have TH : TxtH mg := ⟨⟨_, PySem.W.mg_of X G g_MOST_TIES⟩, ⟨_, PySem.W.mg_of X G g_LONGEST_DELAY⟩⟩
  have TI : TxtI K := ⟨k_int_int, k_int_bool⟩
  have TY : TxtY K mg ⟨xIH, xRM, xNo, xTM⟩ := ⟨PySem.W.mg_of X G e_IntoHouse, xc_IntoHouse, PySem.W.mg_of X G e_RingMade, xc_RingMade, PySem.W.mg_of X G e_NoNumber, xc_NoNumber, PySem.W.mg_of X G e_TooMany, xc_TooMany⟩
  have TD : TxtD mg := ⟨PySem.W.mg_none_of X G z_dict, PySem.W.mg_none_of X G z_len, PySem.W.mg_none_of X G z_range⟩
  have TA : TxtA mg := ⟨PySem.W.mg_none_of X G z_len, PySem.W.mg_none_of X G z_range, PySem.W.mg_none_of X G z_list, PySem.W.mg_none_of X G z_sorted, PySem.W.mg_none_of X G z_enumerate⟩
  refine ⟨fdL, fun s v => ?_, fun base _ _ => ?_⟩
  · obtain ⟨oc, od, kV, doc, pm, an, cdv, ct, osl, rfl, lk, hcd⟩ := FL.ex
    exact .of_eq rfl
  ·
    have D_is_name : Df l.prog w K mg base 1 "is_name" ["name"] sp_is_name := fn0_df f0 X G (fun _ _ _ _ _ _ us hl => len1 us hl (fun _ => rfl)) (fun f fd F => ok_is_name F TL TG TK)
    have R_Post : Dm l.prog w K mg base 1 CP "reads" ["self"] (sp_readsC ⟨CN, CP, CH, CL⟩ CP) := me0_dm f1 clCP (fun _ _ _ _ _ _ us hl => len1 us hl (fun _ => rfl)) (fun f fd F => (ok_Post_reads F).imp (fun vs H Q E h => by unfold sp_readsC at h; rw [show decide ((CP : Addr) = (⟨CN, CP, CH, CL⟩ : Cl).lstn) = false from reads_of O .post] at h; exact h))
    have R_House : Dm l.prog w K mg base 1 CH "reads" ["self"] (sp_readsC ⟨CN, CP, CH, CL⟩ CH) := me0_dm f2 clCH (fun _ _ _ _ _ _ us hl => len1 us hl (fun _ => rfl)) (fun f fd F => (ok_Post_reads F).imp (fun vs H Q E h => by unfold sp_readsC at h; rw [show decide ((CH : Addr) = (⟨CN, CP, CH, CL⟩ : Cl).lstn) = false from reads_of O .house] at h; exact h))
    have R_Listener : Dm l.prog w K mg base 1 CL "reads" ["self"] (sp_readsC ⟨CN, CP, CH, CL⟩ CL) := me0_dm f3 clCL (fun _ _ _ _ _ _ us hl => len1 us hl (fun _ => rfl)) (fun f fd F => (ok_Listener_reads F).imp (fun vs H Q E h => by unfold sp_readsC at h; rw [show decide ((CL : Addr) = (⟨CN, CP, CH, CL⟩ : Cl).lstn) = true from reads_of O .listener] at h; exact h))
    have H_Post : Dm l.prog w K mg base 1 CP "hears" ["self"] (sp_hearsC ⟨CN, CP, CH, CL⟩ CP) := me0_dm f4 clCP (fun _ _ _ _ _ _ us hl => len1 us hl (fun _ => rfl)) (fun f fd F => (ok_Post_hears F).imp (fun vs H Q E h => by unfold sp_hearsC at h; rw [show (!decide ((CP : Addr) = (⟨CN, CP, CH, CL⟩ : Cl).house)) = true from hears_of O .post] at h; exact h))
    have H_House : Dm l.prog w K mg base 1 CH "hears" ["self"] (sp_hearsC ⟨CN, CP, CH, CL⟩ CH) := me0_dm f5 clCH (fun _ _ _ _ _ _ us hl => len1 us hl (fun _ => rfl)) (fun f fd F => (ok_House_hears F).imp (fun vs H Q E h => by unfold sp_hearsC at h; rw [show (!decide ((CH : Addr) = (⟨CN, CP, CH, CL⟩ : Cl).house)) = false from hears_of O .house] at h; exact h))
    have H_Listener : Dm l.prog w K mg base 1 CL "hears" ["self"] (sp_hearsC ⟨CN, CP, CH, CL⟩ CL) := me0_dm f6 clCL (fun _ _ _ _ _ _ us hl => len1 us hl (fun _ => rfl)) (fun f fd F => (ok_Post_hears F).imp (fun vs H Q E h => by unfold sp_hearsC at h; rw [show (!decide ((CL : Addr) = (⟨CN, CP, CH, CL⟩ : Cl).house)) = true from hears_of O .listener] at h; exact h))
    have D_Post : Dk l.prog w K mg base 1 "Post" CP ["self", "name"] (sp_pinit ⟨CN, CP, CH, CL⟩) := in0_dk f7 X G aCP (fun _ _ _ _ _ _ us hl => len2 us hl (fun _ _ => rfl)) (fun f fd F => ok_Post_init F O)
    have D_House : Dk l.prog w K mg base 1 "House" CH ["self", "name"] (sp_pinit ⟨CN, CP, CH, CL⟩) := in0_dk f8 X G aCH (fun _ _ _ _ _ _ us hl => len2 us hl (fun _ _ => rfl)) (fun f fd F => ok_Post_init F O)
    have D_Listener : Dk l.prog w K mg base 1 "Listener" CL ["self", "name"] (sp_pinit ⟨CN, CP, CH, CL⟩) := in0_dk f9 X G aCL (fun _ _ _ _ _ _ us hl => len2 us hl (fun _ _ => rfl)) (fun f fd F => ok_Post_init F O)
    have D_Net : Dk l.prog w K mg base 1 "Net" CN ["self"] (sp_ninit ⟨CN, CP, CH, CL⟩) := in0_dk f10 X G aCN (fun _ _ _ _ _ _ us hl => len1 us hl (fun _ => rfl)) (fun f fd F => ok_Net_init F O)
    have D_reads : ∀ C, IsPost (⟨CN, CP, CH, CL⟩ : Cl) C → Dm l.prog w K mg base 1 C "reads" ["self"] (sp_readsC ⟨CN, CP, CH, CL⟩ C) := by
      rintro _ ⟨k, rfl⟩
      cases k with
      | house => exact R_House
      | listener => exact R_Listener
      | post => exact R_Post
    have D_hears : ∀ C, IsPost (⟨CN, CP, CH, CL⟩ : Cl) C → Dm l.prog w K mg base 1 C "hears" ["self"] (sp_hearsC ⟨CN, CP, CH, CL⟩ C) := by
      rintro _ ⟨k, rfl⟩
      cases k with
      | house => exact H_House
      | listener => exact H_Listener
      | post => exact H_Post
    have D_Net_check_new_name : DmX l.prog w K mg base 2 CN "check_new_name" ["self", "name"] (sp_cnn ⟨CN, CP, CH, CL⟩ ⟨xNN, xTk, xOH, xTM⟩) := me0_dmX f11 clCN (fun _ _ _ _ _ _ us hl => len2 us hl (fun _ _ => rfl)) (fun f fd F => ok_Net_check_new_name F O TX D_is_name)
    have D_Net_names : Dm l.prog w K mg base 1 CN "names" ["self"] (sp_names ⟨CN, CP, CH, CL⟩) := me0_dm f12 clCN (fun _ _ _ _ _ _ us hl => len1 us hl (fun _ => rfl)) (fun f fd F => ok_Net_names F O TL)
    have D_Net_listeners : Dm l.prog w K mg base 2 CN "listeners" ["self"] (sp_listeners ⟨CN, CP, CH, CL⟩) := me0_dm f13 clCN (fun _ _ _ _ _ _ us hl => len1 us hl (fun _ => rfl)) (fun f fd F => ok_Net_listeners F O D_reads)
    have D_Net_home : Dm l.prog w K mg base 2 CN "home" ["self"] (sp_home ⟨CN, CP, CH, CL⟩) := me0_dm f14 clCN (fun _ _ _ _ _ _ us hl => len1 us hl (fun _ => rfl)) (fun f fd F => ok_Net_home F O D_hears)
    have D_Net_put_in : DmX l.prog w K mg base 3 CN "put_in" ["self", "post"] (sp_put_in ⟨CN, CP, CH, CL⟩ ⟨xNN, xTk, xOH, xTM⟩) := me0_dmX f15 clCN (fun _ _ _ _ _ _ us hl => len2 us hl (fun _ _ => rfl)) (fun f fd F => ok_Net_put_in F O TL TG TX D_reads D_Net_listeners)
    have D_Net_post : DmX l.prog w K mg base 4 CN "post" ["self", "name"] (sp_new ⟨CN, CP, CH, CL⟩ ⟨xNN, xTk, xOH, xTM⟩ .post) := me0_dmX f16 clCN (fun _ _ _ _ _ _ us hl => len2 us hl (fun _ _ => rfl)) (fun f fd F => ok_Net_post F O D_Net_check_new_name D_Net_put_in D_Post)
    have D_Net_listener : DmX l.prog w K mg base 4 CN "listener" ["self", "name"] (sp_new ⟨CN, CP, CH, CL⟩ ⟨xNN, xTk, xOH, xTM⟩ .listener) := me0_dmX f17 clCN (fun _ _ _ _ _ _ us hl => len2 us hl (fun _ _ => rfl)) (fun f fd F => ok_Net_listener F O D_Net_check_new_name D_Net_put_in D_Listener)
    have D_Net_house : DmX l.prog w K mg base 4 CN "house" ["self", "name"] (sp_new ⟨CN, CP, CH, CL⟩ ⟨xNN, xTk, xOH, xTM⟩ .house) := me0_dmX f18 clCN (fun _ _ _ _ _ _ us hl => len2 us hl (fun _ _ => rfl)) (fun f fd F => ok_Net_house F O TX D_Net_check_new_name D_Net_put_in D_Net_home D_House)
    have D_is_whole : Df l.prog w K mg base 1 "is_whole" ["number"] sp_is_whole := fn0_df f19 X G (fun _ _ _ _ _ _ us hl => len1 us hl (fun _ => rfl)) (fun f fd F => ok_is_whole F TN TI)
    have D_is_delay : Df l.prog w K mg base 2 "is_delay" ["number"] sp_is_delay := fn0_df f20 X G (fun _ _ _ _ _ _ us hl => len1 us hl (fun _ => rfl)) (fun f fd F => ok_is_delay F TH D_is_whole)
    have D_Net_ties : Dm l.prog w K mg base 1 CN "ties" ["self"] (sp_ties ⟨CN, CP, CH, CL⟩) := me0_dm f21 clCN (fun _ _ _ _ _ _ us hl => len1 us hl (fun _ => rfl)) (fun f fd F => ok_Net_ties F O)
    have D_led_to : Df l.prog w K mg base 1 "led_to" ["ties", "start"] sp_led_to := fn0_df f22 X G (fun _ _ _ _ _ _ us hl => len2 us hl (fun _ _ => rfl)) (fun f fd F => ok_led_to F TN)
    have D_Net_check_there : Dm l.prog w K mg base 1 CN "check_there" ["self", "name"] (sp_there ⟨CN, CP, CH, CL⟩) := me0_dm f23 clCN (fun _ _ _ _ _ _ us hl => len2 us hl (fun _ _ => rfl)) (fun f fd F => ok_Net_check_there F O)
    have D_Net_check_ends : DmX l.prog w K mg base 2 CN "check_ends" ["self", "one", "other"] (sp_ends ⟨CN, CP, CH, CL⟩ ⟨xIH, xRM, xNo, xTM⟩) := me0_dmX f24 clCN (fun _ _ _ _ _ _ us hl => len3 us hl (fun _ _ _ => rfl)) (fun f fd F => ok_Net_check_ends F O TY D_hears D_Net_check_there D_Net_ties D_led_to)
    have D_Net_tie : DmX l.prog w K mg base 3 CN "tie" ["self", "one", "other", "delay"] (sp_tie ⟨CN, CP, CH, CL⟩ ⟨xIH, xRM, xNo, xTM⟩) := meD0_dmX f25 clCN (fun _ _ _ _ _ _ _ _ us hl => len4 us hl (fun _ _ _ _ => ⟨_, rfl, rfl⟩)) (fun f fd F => ok_Net_tie F O TN TH TY D_Net_check_ends D_is_delay)
    have D_Net_tied : DmXd l.prog w K mg base 3 CN "tie" ["self", "one", "other", "delay"] [.int 1] (sp_tie ⟨CN, CP, CH, CL⟩ ⟨xIH, xRM, xNo, xTM⟩) := meD0_dmXd f26 clCN (fun _ _ _ _ _ _ _ _ us hl => len3 us (Nat.succ.inj hl) (fun _ _ _ => ⟨_, rfl, rfl⟩)) (fun f fd F => ok_Net_tie F O TN TH TY D_Net_check_ends D_is_delay)
    have D_standing_ties : Df l.prog w K mg base 2 "standing_ties" ["net", "fallen"] (sp_standing_ties ⟨CN, CP, CH, CL⟩) := fn0_df f27 X G (fun _ _ _ _ _ _ us hl => len2 us hl (fun _ _ => rfl)) (fun f fd F => ok_standing_ties F D_Net_ties)
    have D_step_over : Df l.prog w K mg base 1 "step_over" ["tie", "name", "used"] sp_step_over := fn0_df f28 X G (fun _ _ _ _ _ _ us hl => len3 us hl (fun _ _ _ => rfl)) (fun f fd F => ok_step_over F )
    have D_tie_out_of : Df l.prog w K mg base 1 "tie_out_of" ["ties", "name"] sp_tie_out_of := fn0_df f29 X G (fun _ _ _ _ _ _ us hl => len2 us hl (fun _ _ => rfl)) (fun f fd F => ok_tie_out_of F )
    have D_ties_between : Df l.prog w K mg base 1 "ties_between" ["ties", "came"] sp_ties_between := fn0_df f30 X G (fun _ _ _ _ _ _ us hl => len2 us hl (fun _ _ => rfl)) (fun f fd F => ok_ties_between F )
    have D_one_way : Df l.prog w K mg base 2 "one_way" ["ties", "home", "listener"] sp_one_way := fn0_df f31 X G (fun _ _ _ _ _ _ us hl => len3 us hl (fun _ _ _ => rfl)) (fun f fd F => ok_one_way F D_tie_out_of)
    have D_used_with : Df l.prog w K mg base 1 "used_with" ["used", "came", "listener"] sp_used_with := fn0_df f32 X G (fun _ _ _ _ _ _ us hl => len3 us hl (fun _ _ _ => rfl)) (fun f fd F => ok_used_with F TD)
    have D_reached_from : Df l.prog w K mg base 2 "reached_from" ["home", "touching", "used"] sp_reached_from := fn0_df f33 X G (fun _ _ _ _ _ _ us hl => len3 us hl (fun _ _ _ => rfl)) (fun f fd F => ok_reached_from F TD D_step_over)
    have D_parted_ways : Df l.prog w K mg base 3 "parted_ways" ["ties", "home", "listener", "many"] sp_parted_ways := fn0_df f34 X G (fun _ _ _ _ _ _ us hl => len4 us hl (fun _ _ _ _ => rfl)) (fun f fd F => ok_parted_ways F TD D_one_way)
    have D_ties_by_post : Df l.prog w K mg base 1 "ties_by_post" ["names", "ties"] sp_ties_by_post := fn0_df f35 X G (fun _ _ _ _ _ _ us hl => len2 us hl (fun _ _ => rfl)) (fun f fd F => ok_ties_by_post F TD)
    have D_ways : Df l.prog w K mg base 4 "ways" ["net", "listener", "many", "fallen"] (sp_ways ⟨CN, CP, CH, CL⟩) := fnD0_df f36 X G (fun _ _ _ _ _ _ _ us hl => len4 us hl (fun _ _ _ _ => ⟨_, rfl, rfl⟩)) (fun f fd F => ok_ways F TD D_Net_listeners D_Net_home D_Net_names D_standing_ties D_ties_by_post D_reached_from D_used_with D_ties_between D_parted_ways)
    have D_Lcell_at : Df l.prog w K mg base 1 "_law_cell_at" ["_law_script", "_law_k"] (sp_Lcell_at K) := fn0_df f37 X G (fun _ _ _ _ _ _ us hl => len2 us hl (fun _ _ => rfl)) (fun f fd F => ok_Lcell_at F TA)
    have D_Lmix : Df l.prog w K mg base 1 "_law_mix" ["_law_cell", "_law_k"] sp_Lmix := fn0_df f38 X G (fun _ _ _ _ _ _ us hl => len2 us hl (fun _ _ => rfl)) (fun f fd F => ok_Lmix F TA)
    have D_Lnet : Df l.prog w K mg base 5 "_law_net" ["_law_first", "_law_cells"] (sp_Lnet K ⟨CN, CP, CH, CL⟩) := fn0_df f39 X G (fun _ _ _ _ _ _ us hl => len2 us hl (fun _ _ => rfl)) (fun f fd F => ok_Lnet F TA D_Net D_Lmix D_Net_house D_Net_listener D_Net_post D_Net_tied)
    have D_Lcount : Df l.prog w K mg base 5 "_law_count" ["_law_net_here", "_law_name", "_law_fallen"] (sp_Lcount ⟨CN, CP, CH, CL⟩) := fn0_df f40 X G (fun _ _ _ _ _ _ us hl => len3 us hl (fun _ _ _ => rfl)) (fun f fd F => ok_Lcount F TA D_ways)
    have D_Lright : Df l.prog w K mg base 6 "_law_right" ["_law_net_here", "_law_name", "_law_fallen"] (sp_Lright ⟨CN, CP, CH, CL⟩) := fn0_df f41 X G (fun _ _ _ _ _ _ us hl => len3 us hl (fun _ _ _ => rfl)) (fun f fd F => ok_Lright F TA D_ways D_Lcount D_Net_ties)
    exact ok_law (c := ⟨CN, CP, CH, CL⟩) FL TA D_Lcell_at D_Lmix D_Lnet D_Lright D_Net_ties
theorem walk {l : PySem.W.OpenLaw} {q : Program} {loose : List Str} {XP : (Str → Option Value) → Heap → Prop} {YP : World → Heap → Prop} {d : DefRec} {K : Params → PySem.W.Frag} (hn : l.most = some 63) (hdf : d.params.defaults = [])
    (hY : ∀ (w : World) (h : Heap), YP w h → (K w.params).In h)
    (F : ∀ (w : World) (mg : Str → Option Value) (fa : Addr) (h : Heap), (K w.params).In h → h.Ns mainGlobals mg → mg d.name = some (.ref fa) →
      ∃ fd : FuncData, (∀ (s : Shared) (u : Value), BindsTo s fd ⟨[u], []⟩ [("_law_script", u)]) ∧ ∀ base : Heap, (K w.params).In base → base.Ns mainGlobals mg → FnOk l.prog w (K w.params) mg base CX0 7 fa fd ["_law_script"] (sp_law (K w.params))) :
    PySem.W.WalkO q loose XP YP l.row.toRowW d [] (fun f vs => PySem.call f vs) :=
  L2.walk_of (n := 63) (k := 7) (x := "_law_script") (CX := fun _ => CX0) (sp := fun w => sp_law (K w.params)) hn (by decide) hdf ⟨rfl, by decide, by decide⟩ hY F (fun _ _ a ns hl _ hS => ⟨a, ns, rfl, hS, hl, fun _ => rfl⟩) fun _ _ _ _ _ z => z
end K32
open PySem PySem.W PyProof.Rows L2
set_option maxRecDepth 100000 in
set_option maxHeartbeats 0 in
theorem PySem.Challenge.cw_mixposts_k32_whole_as_many_as_the_least_holds : PySem.Challenge.rw_mixposts_k32_whole_as_many_as_the_least.Holds := by
  w_on; o_law; k_head; (case hw => w_witness2)
  k_fill
  refine K32.walk (l := PySem.Challenge.rw_mixposts_k32_whole_as_many_as_the_least) rfl rfl (fun w h Y => PySem.W.kIn_of Y) ?F
  case F =>
    intro w mg fa h KX G hmg
    refine' K32.all_mk KX G hmg ?aCN ?aCP ?aCH ?aCL ?pgCN ?hdCN ?poCN ?saCN ?pgCP ?hdCP ?poCP ?saCP ?pgCH ?hdCH ?poCH ?saCH ?pgCL ?hdCL ?poCL ?saCL ?nCN_kept_posts ?nCN_kept_ties ?nCN_next_number ?nCP_name ?nCH_name ?nCL_name ?e_NoName ?xc_NoName ?e_Taken ?xc_Taken ?e_OneHouse ?xc_OneHouse ?e_TooMany ?xc_TooMany ?e_IntoHouse ?xc_IntoHouse ?e_RingMade ?xc_RingMade ?e_NoNumber ?xc_NoNumber ?g_LETTERS ?g_LONGEST_NAME ?g_MOST_POSTS ?g_MOST_LISTENERS ?g_MOST_TIES ?g_LONGEST_DELAY ?k_str_str ?k_int_int ?k_int_bool ?ne_ph ?ne_pl ?ne_hl ?z_len ?z_isinstance ?z_str ?z_all ?z_list ?z_int ?z_bool ?z_enumerate ?z_range ?z_sorted ?z_dict (fn0_mk ?A0 ?L0 ?C0 ?K0) (me0_mk ?A1 ?I1 ?L1 ?C1 ?K1) (me0_mk ?A2 ?I2 ?L2 ?C2 ?K2) (me0_mk ?A3 ?I3 ?L3 ?C3 ?K3) (me0_mk ?A4 ?I4 ?L4 ?C4 ?K4) (me0_mk ?A5 ?I5 ?L5 ?C5 ?K5) (me0_mk ?A6 ?I6 ?L6 ?C6 ?K6) (K32.in0_mk ?M7 ?A7 ?I7 ?KC7 ?L7 ?C7 ?K7) (K32.in0_mk ?M8 ?A8 ?I8 ?KC8 ?L8 ?C8 ?K8) (K32.in0_mk ?M9 ?A9 ?I9 ?KC9 ?L9 ?C9 ?K9) (K32.in0_mk ?M10 ?A10 ?I10 ?KC10 ?L10 ?C10 ?K10) (me0_mk ?A11 ?I11 ?L11 ?C11 ?K11) (me0_mk ?A12 ?I12 ?L12 ?C12 ?K12) (me0_mk ?A13 ?I13 ?L13 ?C13 ?K13) (me0_mk ?A14 ?I14 ?L14 ?C14 ?K14) (me0_mk ?A15 ?I15 ?L15 ?C15 ?K15) (me0_mk ?A16 ?I16 ?L16 ?C16 ?K16) (me0_mk ?A17 ?I17 ?L17 ?C17 ?K17) (me0_mk ?A18 ?I18 ?L18 ?C18 ?K18) (fn0_mk ?A19 ?L19 ?C19 ?K19) (fn0_mk ?A20 ?L20 ?C20 ?K20) (me0_mk ?A21 ?I21 ?L21 ?C21 ?K21) (fn0_mk ?A22 ?L22 ?C22 ?K22) (me0_mk ?A23 ?I23 ?L23 ?C23 ?K23) (me0_mk ?A24 ?I24 ?L24 ?C24 ?K24) (K32.meD0_mk ?A25 ?I25 ?L25 ?C25 ?K25 ?D25) (K32.meD0_mk ?A26 ?I26 ?L26 ?C26 ?K26 ?D26) (fn0_mk ?A27 ?L27 ?C27 ?K27) (fn0_mk ?A28 ?L28 ?C28 ?K28) (fn0_mk ?A29 ?L29 ?C29 ?K29) (fn0_mk ?A30 ?L30 ?C30 ?K30) (fn0_mk ?A31 ?L31 ?C31 ?K31) (fn0_mk ?A32 ?L32 ?C32 ?K32) (fn0_mk ?A33 ?L33 ?C33 ?K33) (fn0_mk ?A34 ?L34 ?C34 ?K34) (fn0_mk ?A35 ?L35 ?C35 ?K35) (K32.fnD0_mk ?A36 ?L36 ?C36 ?K36 ?D36) (fn0_mk ?A37 ?L37 ?C37 ?K37) (fn0_mk ?A38 ?L38 ?C38 ?K38) (fn0_mk ?A39 ?L39 ?C39 ?K39) (fn0_mk ?A40 ?L40 ?C40 ?K40) (fn0_mk ?A41 ?L41 ?C41 ?K41) (fn0_mk ?al ?ll ?cl ?kl)
    (case aCN => first | k_is | kit_is)
    (case aCP => first | k_is | kit_is)
    (case aCH => first | k_is | kit_is)
    (case aCL => first | k_is | kit_is)
    (case pgCN => first | k_is | kit_is)
    (case hdCN => first | k_is | kit_is)
    (case poCN => first | k_is | kit_is)
    (case saCN => first | k_is | kit_is)
    (case pgCP => first | k_is | kit_is)
    (case hdCP => first | k_is | kit_is)
    (case poCP => first | k_is | kit_is)
    (case saCP => first | k_is | kit_is)
    (case pgCH => first | k_is | kit_is)
    (case hdCH => first | k_is | kit_is)
    (case poCH => first | k_is | kit_is)
    (case saCH => first | k_is | kit_is)
    (case pgCL => first | k_is | kit_is)
    (case hdCL => first | k_is | kit_is)
    (case poCL => first | k_is | kit_is)
    (case saCL => first | k_is | kit_is)
    (case nCN_kept_posts => first | k_is | kit_is)
    (case nCN_kept_ties => first | k_is | kit_is)
    (case nCN_next_number => first | k_is | kit_is)
    (case nCP_name => first | k_is | kit_is)
    (case nCH_name => first | k_is | kit_is)
    (case nCL_name => first | k_is | kit_is)
    (case e_NoName => first | k_is | kit_is)
    (case xc_NoName => k_exc)
    (case e_Taken => first | k_is | kit_is)
    (case xc_Taken => k_exc)
    (case e_OneHouse => first | k_is | kit_is)
    (case xc_OneHouse => k_exc)
    (case e_TooMany => first | k_is | kit_is)
    (case xc_TooMany => k_exc)
    (case e_IntoHouse => first | k_is | kit_is)
    (case xc_IntoHouse => k_exc)
    (case e_RingMade => first | k_is | kit_is)
    (case xc_RingMade => k_exc)
    (case e_NoNumber => first | k_is | kit_is)
    (case xc_NoNumber => k_exc)
    (case g_LETTERS => first | k_is | kit_is)
    (case g_LONGEST_NAME => first | k_is | kit_is)
    (case g_MOST_POSTS => first | k_is | kit_is)
    (case g_MOST_LISTENERS => first | k_is | kit_is)
    (case g_MOST_TIES => first | k_is | kit_is)
    (case g_LONGEST_DELAY => first | k_is | kit_is)
    (case k_str_str => first | k_is | kit_is)
    (case k_int_int => first | k_is | kit_is)
    (case k_int_bool => first | k_is | kit_is)
    (case ne_ph => first | decide | omega | (intro h; cases h))
    (case ne_pl => first | decide | omega | (intro h; cases h))
    (case ne_hl => first | decide | omega | (intro h; cases h))
    (case z_len => first | k_is | kit_is)
    (case z_isinstance => first | k_is | kit_is)
    (case z_str => first | k_is | kit_is)
    (case z_all => first | k_is | kit_is)
    (case z_list => first | k_is | kit_is)
    (case z_int => first | k_is | kit_is)
    (case z_bool => first | k_is | kit_is)
    (case z_enumerate => first | k_is | kit_is)
    (case z_range => first | k_is | kit_is)
    (case z_sorted => first | k_is | kit_is)
    (case z_dict => first | k_is | kit_is)
    (case A0 => first | k_is | kit_is)
    (case L0 => first | k_is | kit_is)
    (case C0 => first | k_is | kit_is)
    (case K0 => first | k_is | kit_is)
    (case A1 => first | k_is | kit_is)
    (case I1 => first | k_is | kit_is)
    (case L1 => first | k_is | kit_is)
    (case C1 => first | k_is | kit_is)
    (case K1 => first | k_is | kit_is)
    (case A2 => first | k_is | kit_is)
    (case I2 => first | k_is | kit_is)
    (case L2 => first | k_is | kit_is)
    (case C2 => first | k_is | kit_is)
    (case K2 => first | k_is | kit_is)
    (case A3 => first | k_is | kit_is)
    (case I3 => first | k_is | kit_is)
    (case L3 => first | k_is | kit_is)
    (case C3 => first | k_is | kit_is)
    (case K3 => first | k_is | kit_is)
    (case A4 => first | k_is | kit_is)
    (case I4 => first | k_is | kit_is)
    (case L4 => first | k_is | kit_is)
    (case C4 => first | k_is | kit_is)
    (case K4 => first | k_is | kit_is)
    (case A5 => first | k_is | kit_is)
    (case I5 => first | k_is | kit_is)
    (case L5 => first | k_is | kit_is)
    (case C5 => first | k_is | kit_is)
    (case K5 => first | k_is | kit_is)
    (case A6 => first | k_is | kit_is)
    (case I6 => first | k_is | kit_is)
    (case L6 => first | k_is | kit_is)
    (case C6 => first | k_is | kit_is)
    (case K6 => first | k_is | kit_is)
    (case A7 => first | k_is | kit_is)
    (case M7 => first | k_is | kit_is)
    (case I7 => first | k_is | kit_is)
    (case KC7 => first | k_is | kit_is)
    (case L7 => first | k_is | kit_is)
    (case C7 => first | k_is | kit_is)
    (case K7 => first | k_is | kit_is)
    (case A8 => first | k_is | kit_is)
    (case M8 => first | k_is | kit_is)
    (case I8 => first | k_is | kit_is)
    (case KC8 => first | k_is | kit_is)
    (case L8 => first | k_is | kit_is)
    (case C8 => first | k_is | kit_is)
    (case K8 => first | k_is | kit_is)
    (case A9 => first | k_is | kit_is)
    (case M9 => first | k_is | kit_is)
    (case I9 => first | k_is | kit_is)
    (case KC9 => first | k_is | kit_is)
    (case L9 => first | k_is | kit_is)
    (case C9 => first | k_is | kit_is)
    (case K9 => first | k_is | kit_is)
    (case A10 => first | k_is | kit_is)
    (case M10 => first | k_is | kit_is)
    (case I10 => first | k_is | kit_is)
    (case KC10 => first | k_is | kit_is)
    (case L10 => first | k_is | kit_is)
    (case C10 => first | k_is | kit_is)
    (case K10 => first | k_is | kit_is)
    (case A11 => first | k_is | kit_is)
    (case I11 => first | k_is | kit_is)
    (case L11 => first | k_is | kit_is)
    (case C11 => first | k_is | kit_is)
    (case K11 => first | k_is | kit_is)
    (case A12 => first | k_is | kit_is)
    (case I12 => first | k_is | kit_is)
    (case L12 => first | k_is | kit_is)
    (case C12 => first | k_is | kit_is)
    (case K12 => first | k_is | kit_is)
    (case A13 => first | k_is | kit_is)
    (case I13 => first | k_is | kit_is)
    (case L13 => first | k_is | kit_is)
    (case C13 => first | k_is | kit_is)
    (case K13 => first | k_is | kit_is)
    (case A14 => first | k_is | kit_is)
    (case I14 => first | k_is | kit_is)
    (case L14 => first | k_is | kit_is)
    (case C14 => first | k_is | kit_is)
    (case K14 => first | k_is | kit_is)
    (case A15 => first | k_is | kit_is)
    (case I15 => first | k_is | kit_is)
    (case L15 => first | k_is | kit_is)
    (case C15 => first | k_is | kit_is)
    (case K15 => first | k_is | kit_is)
    (case A16 => first | k_is | kit_is)
    (case I16 => first | k_is | kit_is)
    (case L16 => first | k_is | kit_is)
    (case C16 => first | k_is | kit_is)
    (case K16 => first | k_is | kit_is)
    (case A17 => first | k_is | kit_is)
    (case I17 => first | k_is | kit_is)
    (case L17 => first | k_is | kit_is)
    (case C17 => first | k_is | kit_is)
    (case K17 => first | k_is | kit_is)
    (case A18 => first | k_is | kit_is)
    (case I18 => first | k_is | kit_is)
    (case L18 => first | k_is | kit_is)
    (case C18 => first | k_is | kit_is)
    (case K18 => first | k_is | kit_is)
    (case A19 => first | k_is | kit_is)
    (case L19 => first | k_is | kit_is)
    (case C19 => first | k_is | kit_is)
    (case K19 => first | k_is | kit_is)
    (case A20 => first | k_is | kit_is)
    (case L20 => first | k_is | kit_is)
    (case C20 => first | k_is | kit_is)
    (case K20 => first | k_is | kit_is)
    (case A21 => first | k_is | kit_is)
    (case I21 => first | k_is | kit_is)
    (case L21 => first | k_is | kit_is)
    (case C21 => first | k_is | kit_is)
    (case K21 => first | k_is | kit_is)
    (case A22 => first | k_is | kit_is)
    (case L22 => first | k_is | kit_is)
    (case C22 => first | k_is | kit_is)
    (case K22 => first | k_is | kit_is)
    (case A23 => first | k_is | kit_is)
    (case I23 => first | k_is | kit_is)
    (case L23 => first | k_is | kit_is)
    (case C23 => first | k_is | kit_is)
    (case K23 => first | k_is | kit_is)
    (case A24 => first | k_is | kit_is)
    (case I24 => first | k_is | kit_is)
    (case L24 => first | k_is | kit_is)
    (case C24 => first | k_is | kit_is)
    (case K24 => first | k_is | kit_is)
    (case A25 => first | k_is | kit_is)
    (case I25 => first | k_is | kit_is)
    (case L25 => first | k_is | kit_is)
    (case C25 => first | k_is | kit_is)
    (case K25 => first | k_is | kit_is)
    (case D25 => first | k_is | kit_is)
    (case A26 => first | k_is | kit_is)
    (case I26 => first | k_is | kit_is)
    (case L26 => first | k_is | kit_is)
    (case C26 => first | k_is | kit_is)
    (case K26 => first | k_is | kit_is)
    (case D26 => first | k_is | kit_is)
    (case A27 => first | k_is | kit_is)
    (case L27 => first | k_is | kit_is)
    (case C27 => first | k_is | kit_is)
    (case K27 => first | k_is | kit_is)
    (case A28 => first | k_is | kit_is)
    (case L28 => first | k_is | kit_is)
    (case C28 => first | k_is | kit_is)
    (case K28 => first | k_is | kit_is)
    (case A29 => first | k_is | kit_is)
    (case L29 => first | k_is | kit_is)
    (case C29 => first | k_is | kit_is)
    (case K29 => first | k_is | kit_is)
    (case A30 => first | k_is | kit_is)
    (case L30 => first | k_is | kit_is)
    (case C30 => first | k_is | kit_is)
    (case K30 => first | k_is | kit_is)
    (case A31 => first | k_is | kit_is)
    (case L31 => first | k_is | kit_is)
    (case C31 => first | k_is | kit_is)
    (case K31 => first | k_is | kit_is)
    (case A32 => first | k_is | kit_is)
    (case L32 => first | k_is | kit_is)
    (case C32 => first | k_is | kit_is)
    (case K32 => first | k_is | kit_is)
    (case A33 => first | k_is | kit_is)
    (case L33 => first | k_is | kit_is)
    (case C33 => first | k_is | kit_is)
    (case K33 => first | k_is | kit_is)
    (case A34 => first | k_is | kit_is)
    (case L34 => first | k_is | kit_is)
    (case C34 => first | k_is | kit_is)
    (case K34 => first | k_is | kit_is)
    (case A35 => first | k_is | kit_is)
    (case L35 => first | k_is | kit_is)
    (case C35 => first | k_is | kit_is)
    (case K35 => first | k_is | kit_is)
    (case A36 => first | k_is | kit_is)
    (case L36 => first | k_is | kit_is)
    (case C36 => first | k_is | kit_is)
    (case K36 => first | k_is | kit_is)
    (case D36 => first | k_is | kit_is)
    (case A37 => first | k_is | kit_is)
    (case L37 => first | k_is | kit_is)
    (case C37 => first | k_is | kit_is)
    (case K37 => first | k_is | kit_is)
    (case A38 => first | k_is | kit_is)
    (case L38 => first | k_is | kit_is)
    (case C38 => first | k_is | kit_is)
    (case K38 => first | k_is | kit_is)
    (case A39 => first | k_is | kit_is)
    (case L39 => first | k_is | kit_is)
    (case C39 => first | k_is | kit_is)
    (case K39 => first | k_is | kit_is)
    (case A40 => first | k_is | kit_is)
    (case L40 => first | k_is | kit_is)
    (case C40 => first | k_is | kit_is)
    (case K40 => first | k_is | kit_is)
    (case A41 => first | k_is | kit_is)
    (case L41 => first | k_is | kit_is)
    (case C41 => first | k_is | kit_is)
    (case K41 => first | k_is | kit_is)
    (case al => first | k_is | kit_is)
    (case ll => first | k_is | kit_is)
    (case cl => first | k_is | kit_is)
    (case kl => first | k_is | kit_is)
