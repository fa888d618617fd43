import PyProof.Rows.All
import Wide.All
import OpenK.AllK
import Wide.FinOn
import Lean
import PyProof.EqAt
import PyProof.EqKinds
import PyProof.TupleCall
import PyProof.ZipIter
import PyProof.NeKinds
import PySem.Challenge.RW_mixposts_k31_ways_or_a_cut
import PyProof.Logic
import PyProof.StationsW
import PyProof.ExcBaseAll.ValueError
import PyProof.ExcInit
import PyProof.ExcClass2
import PyProof.InstStoreFacts
import PyProof.ExcAttrAll.ValueError
import KE.KDictList
import PyProof.StrWalks
import PyProof.ConsumeWalk
import PyProof.EnumFor
import PyProof.EnumStmt
import PyProof.StrLawsIdx
import PyProof.SliceStr2
import PyProof.MeetsStr
import PyProof.FactsAll.str_5
import PyProof.StrBlockL
import PyProof.StrLawsTight
import PyProof.FitsReplace
import PyProof.Rows.StrItems
import KE.KIntText
import KE.KDictOf
import PyProof.AttrMissHeap
import KE.KDictSum
import PyProof.Rows.SortWalk
import PyProof.SetKind
import PyProof.SetNew
import PyProof.SetRoads
import PyProof.CollectWalk
import PyProof.Rows.TupIn
import PyProof.DictStraight
import PyProof.Rows.SetFrom
import PyProof.WalkLemmas
import KE.KListMore
set_option Elab.async false
set_option linter.all false
set_option maxRecDepth 100000
set_option maxHeartbeats 4000000
set_option maxRecDepth 100000
/-! The head would lay a copy of each heap on the way, with a proof of its own that it is the same: some forty megabytes that the kernel does not need. Where a name is taken, it lays none. -/
theorem PySem.W.Fast.tw10383894015749308988 : True := trivial
theorem PySem.W.Fast.tw10868176994903400420 : True := trivial
theorem PySem.W.Fast.tw10973449331869050529 : True := trivial
theorem PySem.W.Fast.tw11082427474697036908 : True := trivial
theorem PySem.W.Fast.tw11686511613318131903 : True := trivial
theorem PySem.W.Fast.tw11687818081496564015 : True := trivial
theorem PySem.W.Fast.tw1199371175351778708 : True := trivial
theorem PySem.W.Fast.tw12368935113437750534 : True := trivial
theorem PySem.W.Fast.tw12424353986121339429 : True := trivial
theorem PySem.W.Fast.tw12671537387411998085 : True := trivial
theorem PySem.W.Fast.tw12941895830755090069 : True := trivial
theorem PySem.W.Fast.tw1531908085874180651 : True := trivial
theorem PySem.W.Fast.tw15468591806340542421 : True := trivial
theorem PySem.W.Fast.tw16361824489797595433 : True := trivial
theorem PySem.W.Fast.tw17390655174837417081 : True := trivial
theorem PySem.W.Fast.tw1917364442165738883 : True := trivial
theorem PySem.W.Fast.tw274708550623533297 : True := trivial
theorem PySem.W.Fast.tw2782540468515000003 : True := trivial
theorem PySem.W.Fast.tw2858863018841305424 : True := trivial
theorem PySem.W.Fast.tw3023966136026805175 : True := trivial
theorem PySem.W.Fast.tw3823373960163609373 : True := trivial
theorem PySem.W.Fast.tw4551251302050296473 : True := trivial
theorem PySem.W.Fast.tw4779337548979560612 : True := trivial
theorem PySem.W.Fast.tw557977794290445947 : True := trivial
theorem PySem.W.Fast.tw6009113202160459682 : True := trivial
theorem PySem.W.Fast.tw6089007446059721544 : True := trivial
theorem PySem.W.Fast.tw6323953891015848509 : True := trivial
theorem PySem.W.Fast.tw6385904669777166960 : True := trivial
theorem PySem.W.Fast.tw6443013579575446553 : True := trivial
theorem PySem.W.Fast.tw6652530092431671176 : True := trivial
theorem PySem.W.Fast.tw7196891522933986313 : True := trivial
theorem PySem.W.Fast.tw7201679226253688187 : True := trivial
theorem PySem.W.Fast.tw8120445345281968875 : True := trivial
theorem PySem.W.Fast.tw9010553460823903612 : True := trivial
theorem PySem.W.Fast.tw9397362351649771742 : True := trivial
theorem PySem.W.Fast.tw9434768648737661152 : True := trivial
theorem PySem.W.Fast.tw9435215767958634516 : True := trivial
namespace L2
open PySem PySem.Spec PyProof.Rows
abbrev Key:=Sum Int Str
def keyIs:Key→Value→Bool
 | .inl k,v=>Value.isInt k v
 | .inr x,v=>Value.isStrOf x v
def keyH (w:World):Key→Int
 | .inl k=>hashInt k
 | .inr x=>hashStr w x
theorem keyIs_shape:∀ {k:Key} {v:Value},keyIs k v=true→(∃ i t,k=Sum.inl i∧v=Value.int i t) ∨ (∃ x t,k=Sum.inr x∧v=Value.str x t)
 | .inl i,v,h=>by
  obtain ⟨t,e⟩:=Value.isInt_shape (k:=i) (v:=v) h
  exact .inl ⟨i,t,rfl,e⟩
 | .inr x,v,h=>by
  obtain ⟨t,e⟩:=Value.isStrOf_shape (x:=x) (v:=v) h
  exact .inr ⟨x,t,rfl,e⟩
theorem keyIs_int (i:Int) (t:Tok):keyIs (.inl i) (.int i t)=true:=by simp [keyIs,Value.isInt]
theorem keyIs_str (x:Str) (t:Tok):keyIs (.inr x) (.str x t)=true:=by simp [keyIs,Value.isStrOf]
theorem key_ll (a b:Int):decide ((Sum.inl a:Key)=Sum.inl b)=(a == b):=by
 by_cases e:a=b
 ·subst e; simp
 ·have h:¬ (Sum.inl a:Key)=Sum.inl b:=fun q=>e (Sum.inl.inj q)
  rw [decide_eq_false h]
  exact (beq_eq_false_iff_ne.mpr e).symm
theorem key_rr (a b:Str):decide ((Sum.inr a:Key)=Sum.inr b)=decide (a=b):=by
 by_cases e:a=b
 ·subst e; simp
 ·have h:¬ (Sum.inr a:Key)=Sum.inr b:=fun q=>e (Sum.inr.inj q)
  rw [decide_eq_false h,decide_eq_false e]
theorem key_lr (a:Int) (b:Str):decide ((Sum.inl a:Key)=Sum.inr b)=false:=decide_eq_false (fun q=>nomatch q)
theorem key_rl (a:Str) (b:Int):decide ((Sum.inr a:Key)=Sum.inl b)=false:=decide_eq_false (fun q=>nomatch q)
def mixKind (prog:Program) (w:World):PySem.KeyKind prog w Key where
 is:=keyIs
 hash:=keyH w
 inj:=fun v a b ha hb=>by
  rcases keyIs_shape ha with ⟨i,t,rfl,rfl⟩ | ⟨x,t,rfl,rfl⟩
  ·rcases keyIs_shape hb with ⟨j,u,rfl,e⟩ | ⟨y,u,rfl,e⟩
   ·injection e with e1 _; rw [e1]
   ·exact nomatch e
  ·rcases keyIs_shape hb with ⟨j,u,rfl,e⟩ | ⟨y,u,rfl,e⟩
   ·exact nomatch e
   ·injection e with e1 _; rw [e1]
 byValue:=fun k v h=>by
  rcases keyIs_shape h with ⟨i,t,rfl,rfl⟩ | ⟨x,t,rfl,rfl⟩ <;> rfl
 pyHash:=fun hv h=>by
  rcases keyIs_shape hv with ⟨i,t,rfl,rfl⟩ | ⟨x,t,rfl,rfl⟩
  ·exact wpAny_pyHash_int h
  ·exact wpAny_pyHash_str h
 eqBool:=fun hu hv h=>by
  rcases keyIs_shape hu with ⟨i,t,rfl,rfl⟩ | ⟨x,t,rfl,rfl⟩
  ·rcases keyIs_shape hv with ⟨j,u,rfl,rfl⟩ | ⟨y,u,rfl,rfl⟩
   ·rw [key_ll] at h; exact wpAny_eqBool_int h
   ·rw [key_lr] at h; exact SeqAt.EqAt.int_str i t y u _ _ _ _ h
  ·rcases keyIs_shape hv with ⟨j,u,rfl,rfl⟩ | ⟨y,u,rfl,rfl⟩
   ·rw [key_rl] at h; exact SeqAt.EqAt.str_int x t j u _ _ _ _ h
   ·rw [key_rr] at h; exact wpAny_eqBool_str h
 «strs»:=fun k x t v h=>by
  rcases keyIs_shape h with ⟨i,u,rfl,e⟩ | ⟨y,u,rfl,e⟩
  ·exact nomatch e
  ·injection e with e1 _
   subst e1
   cases v <;> rfl
theorem mixKind_int (prog:Program) (w:World) (i:Int) (t:Tok):(mixKind prog w).is (.inl i) (.int i t)=true:=keyIs_int i t
theorem mixKind_str (prog:Program) (w:World) (x:Str) (t:Tok):(mixKind prog w).is (.inr x) (.str x t)=true:=keyIs_str x t
end L2
namespace L2
open PySem PySem.Spec PyProof.Rows
inductive V where
  | non | bl (b : Bool) | int (i : Int) | str (x : Str) | byt (b : Array UInt8) | flt (b : UInt64) | ref (a : Addr) | ty (n : String)
  deriving DecidableEq
def RelV:V→Value→Prop
 | .non,u=>u=Value.none
 | .bl b,u=>u=Value.bool b
 | .int i,u=>∃ t,u=Value.int i t
 | .str x,u=>∃ t,u=Value.str x t
 | .byt b,u=>∃ t,u=Value.bytes b t
 | .flt b,u=>∃ t,u=Value.float b t
 | .ref a,u=>u=Value.ref a
 | .ty n,u=>u=Value.type n
abbrev Vals:List V→List Value→Prop:=Paired RelV
theorem Vals.length {xs:List V} {us:List Value} (r:Vals xs us):xs.length=us.length:=Paired.length r
theorem Vals.get:∀ {xs:List V} {us:List Value} {i:Nat} {x:V},Vals xs us→xs[i]?=some x→∃ u,us[i]?=some u∧RelV x u
 | _,_,_,_,.nil,e=>by simp at e
 | _,_,0,_,.cons r _,e=>by simp at e; subst e; exact ⟨_,rfl,r⟩
 | _,_,i + 1,x,.cons _ t,e=>by
  obtain ⟨u,h1,h2⟩:=Vals.get (i:=i) (x:=x) t (by simpa using e)
  exact ⟨u,by simpa using h1,h2⟩
theorem Vals.set {x:V} {u:Value} (r:RelV x u):∀ {xs:List V} {us:List Value} (i:Nat),Vals xs us→Vals (xs.set i x) (us.set i u)
 | _,_,_,.nil=>.nil
 | _,_,0,.cons _ t=>.cons r t
 | _,_,i + 1,.cons q t=>.cons q (Vals.set r i t)
theorem Vals.append:∀ {xs ys:List V} {us ws:List Value},Vals xs us→Vals ys ws→Vals (xs ++ ys) (us ++ ws)
 | _,_,_,_,.nil,s=>s
 | _,_,_,_,.cons r t,s=>.cons r (Vals.append t s)
theorem Vals.take:∀ {xs:List V} {us:List Value} (n:Nat),Vals xs us→Vals (xs.take n) (us.take n)
 | _,_,0,_=>.nil
 | _,_,_ + 1,.nil=>.nil
 | _,_,n + 1,.cons r t=>.cons r (Vals.take n t)
theorem Vals.drop:∀ {xs:List V} {us:List Value} (n:Nat),Vals xs us→Vals (xs.drop n) (us.drop n)
 | _,_,0,r=>r
 | _,_,_ + 1,.nil=>.nil
 | _,_,n + 1,.cons _ t=>Vals.drop n t
theorem Vals.none_of:∀ {xs:List V} {us:List Value} {i:Nat},Vals xs us→xs[i]?=none→us[i]?=none:=fun {xs us i} r e=>by
 have h1:=r.length
 have h2:xs.length ≤ i:=List.getElem?_eq_none_iff.mp e
 exact List.getElem?_eq_none_iff.mpr (by omega)
def RelO:Option V→Option Value→Prop
 | some v,some u=>RelV v u
 | none,none=>True
 | _,_=>False
def KV {κ:Type}:List (κ × V)→List (κ × Value)→Prop:=Paired fun (p:κ × V) (q:κ × Value)=>p.1=q.1∧RelV p.2 q.2
def kV:Key→V
 | .inl i=>.int i
 | .inr x=>.str x
inductive HO where
  | lst (xs : List V)
  | tup (xs : List V)
  | dK (kvs : List (Key × V)) | dT (kvs : List (List Key × V))
  | set (S : Int → Bool) (n : Nat)
  | ins (C dx : Addr) (fs : List (Str × V))
  | own (x : Addr)
  | xd (fs : List (Str × V))
  | met (f x : Addr)
  | rng (lo hi : Int)
  | frz (o : Obj) (u : HO)
  | tbl (ps : Array Value)
  | ext (φ : Heap → Prop)
abbrev Hp:=Addr→Option HO
def upd (H:Hp) (a:Addr) (o:HO):Hp:=fun b=>if b=a then some o else H b
theorem upd_same {H:Hp} {a:Addr} {o:HO}:upd H a o a=some o:=by unfold upd; rw [if_pos rfl]
theorem upd_ne {H:Hp} {a b:Addr} {o:HO} (h:b ≠ a):upd H a o b=H b:=by unfold upd; rw [if_neg h]
theorem upd_upd {H:Hp} {a:Addr} {o u:HO}:upd (upd H a o) a u=upd H a u:=by
 funext b; unfold upd; split <;> rfl
theorem ne_of {H:Hp} {a b:Addr} {o u:HO} (h:H a=some o) (h':H b=some u) (d:o ≠ u):a ≠ b:=by
 intro e; subst e; rw [h] at h'; exact d (Option.some.inj h')
theorem ne_of_none {H:Hp} {a b:Addr} {o:HO} (h:H a=some o) (h':H b=none):a ≠ b:=by
 intro e; subst e; rw [h] at h'; cases h'
section
variable (P : Program) (w : World)
def ObjOk (H:Hp) (h:Heap) (a:Addr):HO→Prop
 | .lst xs=>xs.length ≤ sizeLine∧∃ (its:List Value) (n:Nat),Vals xs its∧h.get? a=some { cls:=.type "list",data:=.seq its.toArray n }
 | .tup xs=>xs.length ≤ sizeLine∧∃ its:List Value,Vals xs its∧IsTup h a its.toArray
 | .dK kvs=>kvs.length ≤ sizeLine∧(a == sysModules)=false∧∃ vs,KV kvs vs∧h.DictOf (mixKind P w) a vs
 | .dT kvs=>kvs.length ≤ sizeLine∧(a == sysModules)=false∧∃ xs:List (List Key × Addr × Value),
   Paired (fun (p:List Key × V) (q:List Key × Addr × Value)=>p.1=q.1∧H q.2.1=some (.tup (p.1.map kV))∧RelV p.2 q.2.2) kvs xs∧
   ∃ o es ep,h.get? a=some o∧o.ExactDict∧o.data=.dict es ep∧es.toList=xs.map (entryOfKey (tupleKind (mixKind P w)))∧(xs.map (·.1)).Nodup
 | .set S n=>h.SetOf (intKind P w) a S n
 | .ins C dx fs=>H dx=some (.own a)∧fs.length ≤ 1000∧dx ≠ a∧h.get? a=some (PySem.W.instObj C dx)∧
   ∃ mA,h.Ns1 dx mA∧(∀ f,RelO (fs.lookup f) (mA f))∧PySem.Within mA (fs.map (·.1))
 | .own _=>∃ o,h.get? a=some o
 | .xd fs=>∃ mA,h.Ns1 a mA∧∀ f,RelO (fs.lookup f) (mA f)
 | .rng lo hi=>∃ t u v,h.get? a=some { cls:=.type "range",data:=.fields #[.int lo t,.int hi u,.int 1 v] }
 | .frz o u=>h.get? a=some o∧ObjOk H h a u
 | .tbl ps=>h.get? a=some { cls:=.none,data:=.fields ps }
 | .met f x=>h.get? a=some (PySem.W.methodObj (.ref f) (.ref x))
 | .ext φ=>φ h∧(∃ o,h.get? a=some o)∧∀ h1 h2:Heap,φ h1→(∀ o,h1.get? a=some o→h2.get? a=some o)→φ h2
def HOk (H:Hp) (h:Heap):Prop:=∀ a o,H a=some o→ObjOk P w H h a o
end
section
variable {P : Program} {w : World} {H H' : Hp} {h h' : Heap} {a : Addr} {o : HO}
theorem ObjOk.lt (x:ObjOk P w H h a o):a < h.objs.size:=by
 cases o with
 | lst xs=>obtain ⟨_,_,_,_,e⟩:=x; exact Heap.lt_size e
 | tup xs=>obtain ⟨_,_,_,p⟩:=x; exact p.lt
 | dK kvs=>obtain ⟨_,_,_,_,o,_,_,e,_⟩:=x; exact Heap.lt_size e
 | dT kvs=>obtain ⟨_,_,_,_,o,_,_,e,_⟩:=x; exact Heap.lt_size e
 | set S n=>obtain ⟨o,_,_,_,e,_⟩:=x; exact Heap.lt_size e
 | ins C dx fs=>obtain ⟨_,_,_,e,_⟩:=x; exact Heap.lt_size e
 | own y=>obtain ⟨_,e⟩:=x; exact Heap.lt_size e
 | xd fs=>obtain ⟨_,⟨_,_,_,e,_⟩,_⟩:=x; exact Heap.lt_size e
 | rng lo hi=>obtain ⟨_,_,_,e⟩:=x; exact Heap.lt_size e
 | frz ob u=>obtain ⟨e,_⟩:=x; exact Heap.lt_size e
 | tbl ps=>exact Heap.lt_size (show h.get? a=some _ from x)
 | met f y=>exact Heap.lt_size (show h.get? a=some _ from x)
 | ext φ=>obtain ⟨_,⟨_,e⟩,_⟩:=x; exact Heap.lt_size e
theorem Paired.mapP {α β:Type} {F G:α→β→Prop}:∀ {l₁:List α} {l₂:List β},Paired F l₁ l₂→(∀ a b,F a b→G a b)→Paired G l₁ l₂
 | _,_,.nil,_=>.nil
 | _,_,.cons r t,f=>.cons (f _ _ r) (Paired.mapP t f)
theorem Paired.imp' {α β:Type} {F G:α→β→Prop} (f:∀ a b,F a b→G a b) {l₁:List α} {l₂:List β} (r:Paired F l₁ l₂):Paired G l₁ l₂:=Paired.mapP r f
theorem ObjOk.stay (x:ObjOk P w H h a o) (k:∀ b u,(b=a ∨ H b=some (.own a))→h.get? b=some u→h'.get? b=some u)
  (ho:∀ b,H b=some (.own a)→H' b=some (.own a)) (ht:∀ b xs,H b=some (.tup xs)→H' b=some (.tup xs)):ObjOk P w H' h' a o:=by
 induction o with
 | lst xs=>obtain ⟨z,its,n,r,e⟩:=x; exact ⟨z,its,n,r,k _ _ (.inl rfl) e⟩
 | tup xs=>obtain ⟨z,its,r,ob,e,c⟩:=x; exact ⟨z,its,r,ob,k _ _ (.inl rfl) e,c⟩
 | dK kvs=>obtain ⟨z,y,vs,r,ob,es,ep,e,c⟩:=x; exact ⟨z,y,vs,r,ob,es,ep,k _ _ (.inl rfl) e,c⟩
 | dT kvs=>
  obtain ⟨z,y,xs,r,ob,es,ep,e,c⟩:=x
  exact ⟨z,y,xs,Paired.mapP r fun p q z=>⟨z.1,ht _ _ z.2.1,z.2.2⟩,ob,es,ep,k _ _ (.inl rfl) e,c⟩
 | set S n=>obtain ⟨ob,es,ep,t,e,c⟩:=x; exact ⟨ob,es,ep,t,k _ _ (.inl rfl) e,c⟩
 | ins C dx fs=>
  obtain ⟨d,z,ne,e,mA,⟨od,es,ep,e2,c⟩,r⟩:=x
  exact ⟨ho _ d,z,ne,k _ _ (.inl rfl) e,mA,⟨od,es,ep,k _ _ (.inr d) e2,c⟩,r⟩
 | own y=>obtain ⟨ob,e⟩:=x; exact ⟨ob,k _ _ (.inl rfl) e⟩
 | xd fs=>obtain ⟨mA,⟨od,es,ep,e,c⟩,r⟩:=x; exact ⟨mA,⟨od,es,ep,k _ _ (.inl rfl) e,c⟩,r⟩
 | rng lo hi=>obtain ⟨t,u,v,e⟩:=x; exact ⟨t,u,v,k _ _ (.inl rfl) e⟩
 | frz ob u ih=>obtain ⟨e,q⟩:=x; exact ⟨k _ _ (.inl rfl) e,ih q⟩
 | tbl ps=>
  have e:h.get? a=some { cls:=.none,data:=.fields ps }:=x
  show h'.get? a=some { cls:=.none,data:=.fields ps }
  exact k a _ (.inl rfl) e
 | met f y=>
  have e:h.get? a=some (PySem.W.methodObj (.ref f) (.ref y)):=x
  show h'.get? a=some (PySem.W.methodObj (.ref f) (.ref y))
  exact k a _ (.inl rfl) e
 | ext φ=>obtain ⟨p,⟨o,e⟩,st⟩:=x; exact ⟨st _ _ p fun o q=>k _ _ (.inl rfl) q,⟨o,k _ _ (.inl rfl) e⟩,st⟩
theorem HOk.lt (x:HOk P w H h) (e:H a=some o):a < h.objs.size:=(x a o e).lt
theorem HOk.fresh (x:HOk P w H h) (e:h.objs.size ≤ a):H a=none:=by
 cases q:H a with
 | none=>rfl
 | some u=>exact absurd (Nat.lt_of_lt_of_le (x.lt q) e) (Nat.lt_irrefl _)
theorem HOk.kept (x:HOk P w H h) (k:∀ b u,h.get? b=some u→h'.get? b=some u):HOk P w H h':=fun a o e=>
 (x a o e).stay (fun b u _ q=>k b u q) (fun _ q=>q) fun _ _ q=>q
theorem HOk.laid (x:HOk P w H h) (k:∀ b u,h.get? b=some u→h'.get? b=some u) (hp:h.objs.size ≤ a) (new:ObjOk P w (upd H a o) h' a o):HOk P w (upd H a o) h':=fun b u e=>by
 have hn:=x.fresh hp
 by_cases hb:b=a
 ·subst hb; rw [upd_same] at e; cases e; exact new
 ·rw [upd_ne hb] at e
  exact (x b u e).stay (fun c v _ q=>k c v q) (fun c q=>by rw [upd_ne (ne_of_none q hn)]; exact q) fun c xs q=>by rw [upd_ne (ne_of_none q hn)]; exact q
end
def Rd (H:Hp) (a:Addr) (u:HO):Prop:=H a=some u ∨ ∃ o,H a=some (.frz o u)
theorem Rd.of {H:Hp} {a:Addr} {u:HO} (h:H a=some u):Rd H a u:=.inl h
theorem Rd.ok {P:Program} {w:World} {H:Hp} {h:Heap} {a:Addr} {u:HO} (r:Rd H a u) (x:HOk P w H h):ObjOk P w H h a u:=by
 rcases r with r | ⟨o,r⟩
 ·exact x a u r
 ·obtain ⟨_,q⟩:=x a _ r
  exact q
def Mut:Option HO→Prop
 | some (.lst _)=>True
 | some (.dK _)=>True
 | some (.dT _)=>True
 | some (.set _ _)=>True
 | some (.ins _ _ _)=>True
 | some (.ext _)=>True
 | _=>False
section
variable {P : Program} {w : World} {H : Hp} {h h' : Heap} {x e : Addr} {o' : HO}
theorem HOk.write (ok:HOk P w H h) (mu:Mut (H x)) (he:e=x ∨ H e=some (.own x)) (k:∀ b u,b ≠ e→h.get? b=some u→h'.get? b=some u) (heo:∃ u,h'.get? e=some u)
  (new:ObjOk P w (upd H x o') h' x o'):HOk P w (upd H x o') h':=fun b u q=>by
 have nown:∀ c y,H c=some (.own y)→c ≠ x:=fun c y r z=>by subst z; rw [r] at mu; exact mu
 have ntup:∀ c xs,H c=some (.tup xs)→c ≠ x:=fun c xs r z=>by subst z; rw [r] at mu; exact mu
 by_cases hb:b=x
 ·subst hb; rw [upd_same] at q; cases q; exact new
 ·rw [upd_ne hb] at q
  by_cases hbe:b=e
  ·have q':H b=some (.own x):=by
    rcases he with z | z
    ·exact absurd (hbe.trans z) hb
    ·rw [hbe]; exact z
   rw [q] at q'; cases q'
   obtain ⟨v,hv⟩:=heo
   exact ⟨v,by rw [hbe]; exact hv⟩
  ·refine (ok b u q).stay (fun c v hc r=>k c v ?_ r) (fun c r=>by rw [upd_ne (nown c b r)]; exact r) fun c xs r=>by rw [upd_ne (ntup c xs r)]; exact r
   rcases hc with rfl | hc
   ·exact hbe
   ·rintro rfl
    rcases he with z | z
    ·exact nown c b hc z
    ·rw [hc] at z; cases z; exact hb rfl
end
structure Un (fs ex : List Addr) (H H' : Hp) (h h' : Heap) : Prop where
  keep : ∀ b o, h.get? b = some o → H b = none → b ∉ fs → b ∉ ex → h'.get? b = some o
  slot : ∀ b o, h.get? b = some o → H b = none → b ∈ fs → b ∉ ex → ∃ sl, h'.get? b = some { o with slots := sl }
  free : ∀ b o, h.get? b = some o → H b = none → b ∉ ex → H' b = none
  there : ∀ b o, h.get? b = some o → b ∉ ex → ∃ o', h'.get? b = some o'
  tups : ∀ b xs, H b = some (.tup xs) → H' b = some (.tup xs)
  frzs : ∀ b o u, H b = some (.frz o u) → H' b = some (.frz o u)
  tbls : ∀ b ps, H b = some (.tbl ps) → ∃ more, H' b = some (.tbl (ps ++ more))
section
variable {fs fs' ex ex' : List Addr} {H H1 H2 : Hp} {h h1 h2 h' : Heap} {a x e : Addr} {o : HO}
theorem Un.any (u:Un fs ex H H1 h h1) {b:Addr} {ob:Obj} (q:h.get? b=some ob) (n:H b=none) (hx:b ∉ ex):∃ sl,h1.get? b=some { ob with slots:=sl }:=by
 by_cases hb:b ∈ fs
 ·exact u.slot b ob q n hb hx
 ·exact ⟨ob.slots,u.keep b ob q n hb hx⟩
theorem Un.trans (a:Un fs ex H H1 h h1) (b:Un fs ex H1 H2 h1 h2):Un fs ex H H2 h h2 where
 keep:=fun c ob q n hc hx=>b.keep c ob (a.keep c ob q n hc hx) (a.free c ob q n hx) hc hx
 slot:=fun c ob q n hc hx=>by
  obtain ⟨sl,e1⟩:=a.slot c ob q n hc hx
  obtain ⟨sl',e2⟩:=b.slot c _ e1 (a.free c ob q n hx) hc hx
  exact ⟨sl',e2⟩
 free:=fun c ob q n hx=>by
  obtain ⟨o',e1⟩:=a.there c ob q hx
  exact b.free c o' e1 (a.free c ob q n hx) hx
 there:=fun c ob q hx=>by
  obtain ⟨o',e1⟩:=a.there c ob q hx
  exact b.there c o' e1 hx
 tups:=fun c xs q=>b.tups c xs (a.tups c xs q)
 frzs:=fun c ob xs q=>b.frzs c ob xs (a.frzs c ob xs q)
 tbls:=fun c ps q=>by
  obtain ⟨m1,e1⟩:=a.tbls c ps q
  obtain ⟨m2,e2⟩:=b.tbls c _ e1
  exact ⟨m1 ++ m2,by rw [e2,Array.append_assoc]⟩
theorem Un.kept (k:∀ b u,h.get? b=some u→h'.get? b=some u):Un fs ex H H h h':=
 ⟨fun b ob q _ _ _=>k b ob q,fun b ob q _ _ _=>⟨ob.slots,k b ob q⟩,fun _ _ _ n _=>n,fun b ob q _=>⟨ob,k b ob q⟩,fun _ _ q=>q,fun _ _ _ q=>q,fun _ ps q=>⟨#[],by rw [q]; simp⟩⟩
theorem Un.refl:Un fs ex H H h h:=Un.kept fun _ _ q=>q
theorem Un.laid (k:∀ b u,h.get? b=some u→h'.get? b=some u) (hp:h.objs.size ≤ a) (hn:H a=none):Un fs ex H (upd H a o) h h' where
 keep:=fun b u q _ _ _=>k b u q
 slot:=fun b u q _ _ _=>⟨u.slots,k b u q⟩
 free:=fun b u q n _=>by rw [upd_ne (Nat.ne_of_lt (Nat.lt_of_lt_of_le (Heap.lt_size q) hp))]; exact n
 there:=fun b u q _=>⟨u,k b u q⟩
 tups:=fun b xs q=>by rw [upd_ne (ne_of_none q hn)]; exact q
 frzs:=fun b u xs q=>by rw [upd_ne (ne_of_none q hn)]; exact q
 tbls:=fun b ps q=>⟨#[],by rw [upd_ne (ne_of_none q hn),q]; simp⟩
theorem Un.write (mu:Mut (H x)) (he:e=x ∨ H e=some (.own x)) (k:∀ b u,b ≠ e→h.get? b=some u→h'.get? b=some u) (heo:∃ u,h'.get? e=some u):Un fs ex H (upd H x o) h h':=by
 have hx:∀ b,H b=none→b ≠ x:=fun b n z=>by subst z; rw [n] at mu; exact mu
 have hb:∀ b,H b=none→b ≠ e:=fun b n z=>by
  subst z
  rcases he with r | r
  ·exact hx b n r
  ·rw [n] at r; cases r
 have hm:∀ b u,H b=some u→¬ Mut (some u)→b ≠ x:=fun b u q nm z=>by subst z; rw [q] at mu; exact nm mu
 refine ⟨fun b u q n _ _=>k b u (hb b n) q,fun b u q n _ _=>⟨u.slots,k b u (hb b n) q⟩,fun b u q n _=>by rw [upd_ne (hx b n)]; exact n,fun b u q _=>?_,
  fun b xs q=>by rw [upd_ne (hm b _ q fun z=>z)]; exact q,fun b u xs q=>by rw [upd_ne (hm b _ q fun z=>z)]; exact q,fun b ps q=>⟨#[],by rw [upd_ne (hm b _ q fun z=>z),q]; simp⟩⟩
 by_cases hbe:b=e
 ·subst hbe; exact heo
 ·exact ⟨u,k b u hbe q⟩
theorem Un.mono (u:Un fs ex H H1 h h1) (hs:∀ b ∈ fs,b ∈ fs') (hx:∀ b ∈ ex,b ∈ ex'):Un fs' ex' H H1 h h1:=
 ⟨fun b ob q n hb he=>u.keep b ob q n (fun z=>hb (hs b z)) fun z=>he (hx b z),fun _ _ q n _ he=>u.any q n fun z=>he (hx _ z),fun b ob q n he=>u.free b ob q n fun z=>he (hx b z),fun b ob q he=>u.there b ob q fun z=>he (hx b z),u.tups,u.frzs,u.tbls⟩
end
def trk (h:Heap) (H:Hp):List Addr:=(List.range h.objs.size).filter fun a=>(H a).isSome
def hidT (h:Heap) (H:Hp):Heap:=PySem.W.hideAll h (trk h H)
theorem hidT_size (h:Heap) (H:Hp):(hidT h H).objs.size=h.objs.size:=PySem.W.hideAll_size _ _
theorem hidT_get {h:Heap} {H:Hp} {b:Addr} {o:Obj} (e:h.get? b=some o) (n:H b=none):(hidT h H).get? b=some o:=
 PySem.W.hideAll_get _ e fun hm=>by
  have q:(H b).isSome=true:=(List.mem_filter.mp hm).2
  rw [n] at q; simp at q
theorem of_hidT {h:Heap} {H:Hp} {b:Addr} {o:Obj} (e:(hidT h H).get? b=some o):h.get? b=some o∧H b=none:=by
 have e':h.get? b=some o:=PySem.W.of_hideAll (trk h H) e
 refine ⟨e',?_⟩
 cases q:H b with
 | none=>rfl
 | some x=>
  have hm:b ∈ trk h H:=List.mem_filter.mpr ⟨List.mem_range.mpr (Heap.lt_size e'),by simp [q]⟩
  have z:(hidT h H).get? b=none:=PySem.W.hideAll_none (trk h H) hm
  rw [z] at e; cases e
def allNews (g h:Heap) (L:Addr):List (Addr × Obj):=(List.range h.objs.size).filterMap fun a=>if a=L ∨ (g.get? a).isSome=true then none else (h.get? a).map fun o=>(a,o)
def rest (g h:Heap) (L d:Addr):List (Addr × Obj):=(allNews g h L).filter fun p=>decide (p.1 ≠ d)
end L2
namespace L2
open PySem PySem.Spec PyProof.Rows
structure Mod (K : PySem.W.Frag) (mg : Str → Option Value) (base : Heap) : Prop where
  kin : K.In base
  glob : base.Ns mainGlobals mg
  blt : ∃ mb, base.Ns builtinsNs mb ∧ ∀ x : Str, x ≠ "__name__" → mb x = bootBuiltins x
  nolimit : base.NoLimit
structure Cx where
  prog : Program
  w : World
  K : PySem.W.Frag
  mg : Str → Option Value
  base : Heap
  A : Around
  N : List Str
  s₀ : Shared
  H₀ : Hp
  env : Env
  outer : List Env
  stack : List Env
  ex : List Addr
  fn : Str → Bool
  calm : Bool
  pn : List (Addr × Obj)
  xe : Value → Shared → Prop
def frs (l:List Env):List Addr:=l.filterMap (·.frame)
abbrev Cx.fs (X:Cx):List Addr:=frs X.outer
def Vis (sc:Scope) (x:Str):Prop:=sc.names.lookup x=some .local ∨ sc.names.lookup x=some .cell ∨ sc.names.lookup x=some .free
def Loc (sc:Scope) (x:Str):Prop:=sc.names.lookup x=some .local ∨ sc.names.lookup x=some .cell
def Look (env:Env) (h:Heap) (m:Str→Option Value) (x:Str) (u:Value):Prop:=
 (env.kindOf x=some .local∧m x=some u) ∨ ((env.kindOf x=some .cell ∨ env.kindOf x=some .free)∧∃ c,env.cells.lookup x=some c∧h.IsCell c (some u))
structure Cx.Ok (X : Cx) : Prop where
  mod : Mod X.K X.mg X.base
  kind : X.env.scope.kind = .function
  glob : X.env.globals = mainGlobals
  blt : X.env.builtins = builtinsNs
  above : X.s₀.heap.objs.size ≤ X.env.locals
  inj : ∀ x y c, X.env.cells.lookup x = some c → X.env.cells.lookup y = some c → x = y
  has : ∀ x, (X.env.kindOf x = some .cell ∨ X.env.kindOf x = some .free) → ∃ c, X.env.cells.lookup x = some c
  cab : ∀ x c, X.fn x = true → X.env.cells.lookup x = some c → X.s₀.heap.objs.size ≤ c
  hd : X.calm = true → X.A.handled = none
  frames : X.A.frames = some X.stack
  stk : X.stack = X.outer ∨ (X.stack = X.env :: X.outer ∧ X.env.frame = some X.env.locals)
  exf : ∀ b ∈ X.ex, b ≠ X.env.locals ∧ ∀ x c, X.env.cells.lookup x = some c → c ≠ b
  bs : ∀ b o, X.base.get? b = some o → X.s₀.heap.get? b = some o ∧ X.H₀ b = none
  bsz : X.base.objs.size ≤ X.s₀.heap.objs.size
  noex : ∀ b o, X.base.get? b = some o → b ∉ X.ex
  exfs : ∀ b ∈ X.ex, b ∉ X.fs
  funs : X.s₀.heap.FunFrames X.base X.outer
  frf : ∀ b ∈ X.fs, X.H₀ b = none
structure Inv (X : Cx) (pins : List (Addr × Obj)) (σ : List (Option V)) (H : Hp) (s : Shared) : Prop where
  ok : X.Ok
  os : s.os = X.s₀.os
  bare : AllBare s.gens
  base : Un X.fs X.ex X.H₀ H X.s₀.heap s.heap
  loc : ∃ m, s.heap.Ns X.env.locals m ∧ ∀ (i : Nat) (x : Str) (v : V), X.N[i]? = some x → σ[i]? = some (some v) → Vis X.env.scope x → ∃ u, RelV v u ∧ Look X.env s.heap m x u
  cell : ∀ x c, X.env.cells.lookup x = some c → ∃ v, s.heap.IsCell c v
  free : H X.env.locals = none
  freeC : ∀ x c, X.env.cells.lookup x = some c → H c = none
  pin : ∀ p ∈ X.pn ++ pins, s.heap.get? p.1 = some p.2 ∧ H p.1 = none ∧ p.1 ≠ X.env.locals ∧ p.1 ∉ X.fs ∧ ∀ v, p.2.data ≠ .cell v
  hok : HOk X.prog X.w H s.heap
  len : σ.length = X.N.length
section
variable {X : Cx} {pins : List (Addr × Obj)} {σ : List (Option V)} {H H' : Hp} {s : Shared} {h' : Heap}
theorem Cx.Ok.nofr (ok:X.Ok) {b:Addr} {o:Obj} (e:X.base.get? b=some o):b ∉ X.fs:=fun hb=>by
 have:=(ok.funs.mem hb).1
 rw [e] at this; cases this
theorem Inv.bs (I:Inv X pins σ H s):∀ b o,X.base.get? b=some o→s.heap.get? b=some o∧H b=none:=fun b o e=>
 ⟨I.base.keep b o (I.ok.bs b o e).1 (I.ok.bs b o e).2 (I.ok.nofr e) (I.ok.noex b o e),I.base.free b o (I.ok.bs b o e).1 (I.ok.bs b o e).2 (I.ok.noex b o e)⟩
theorem Inv.bk (I:Inv X pins σ H s):∀ b o,X.base.get? b=some o→s.heap.get? b=some o:=fun b o e=>(I.bs b o e).1
theorem Inv.mod (I:Inv X pins σ H s):Mod X.K X.mg X.base:=I.ok.mod
theorem Inv.kIn (I:Inv X pins σ H s):X.K.In s.heap:=I.ok.mod.kin.keeps I.bk
theorem Inv.nolimit (I:Inv X pins σ H s):s.heap.NoLimit:=I.ok.mod.nolimit.keeps I.bk
theorem Inv.lt (I:Inv X pins σ H s):X.env.locals < s.heap.objs.size:=let ⟨_,hn,_⟩:=I.loc; hn.lt
theorem Inv.sz (I:Inv X pins σ H s):X.s₀.heap.objs.size ≤ s.heap.objs.size:=Nat.le_trans I.ok.above (Nat.le_of_lt I.lt)
theorem Inv.nofs (I:Inv X pins σ H s) {a:Addr} (h:s.heap.objs.size ≤ a):a ∉ X.fs:=fun hb=>by
 obtain ⟨_,o,ho,_⟩:=I.ok.funs.mem hb
 exact absurd (Nat.lt_of_lt_of_le (Heap.lt_size ho) (Nat.le_trans I.sz h)) (Nat.lt_irrefl _)
theorem Inv.cne (I:Inv X pins σ H s):∀ x c,X.env.cells.lookup x=some c→c ≠ X.env.locals:=fun x c e z=>by
 obtain ⟨v,o,ho,hd⟩:=I.cell x c e
 obtain ⟨m,⟨o',es,ep,ho',hd',_⟩,_⟩:=I.loc
 rw [z,ho'] at ho; cases ho; rw [hd'] at hd; cases hd
theorem Inv.funs (I:Inv X pins σ H s):s.heap.FunFrames X.base X.outer:=by
 have all:∀ (l:List Env),(∀ b ∈ frs l,b ∈ X.fs)→X.s₀.heap.FunFrames X.base l→s.heap.FunFrames X.base l:=by
  intro l
  induction l with
  | nil=>intro _ _; trivial
  | cons env r ih=>
   intro hs hl
   obtain ⟨hk,⟨L,o,hf,hn,ho,hd⟩,hr⟩:=hl
   have hL:L ∈ X.fs:=hs L (by unfold frs; rw [List.filterMap_cons,hf]; exact List.mem_cons_self)
   obtain ⟨sl,e⟩:=I.base.slot L o ho (I.ok.frf L hL) hL fun z=>I.ok.exfs L z hL
   exact ⟨hk,⟨L,_,hf,hn,e,hd⟩,ih (fun b hb=>hs b (by unfold frs; rw [List.filterMap_cons,hf]; exact List.mem_cons_of_mem _ hb)) hr⟩
 exact all X.outer (fun _ hb=>hb) I.ok.funs
theorem Inv.stack (I:Inv X pins σ H s):s.heap.FunFrames X.base X.stack:=by
 rcases I.ok.stk with e | ⟨e,hf⟩
 ·rw [e]; exact I.funs
 ·rw [e]
  obtain ⟨m,hn,_⟩:=I.loc
  refine .cons (by rw [I.ok.kind]; decide) hf hn ?_ I.funs
  exact Heap.get?_none_of_le (Nat.le_trans I.ok.bsz I.ok.above)
theorem Inv.stkSub (I:Inv X pins σ H s):∀ b ∈ frs X.stack,b ∈ X.env.locals :: X.fs:=fun b hb=>by
 rcases I.ok.stk with e | ⟨e,hf⟩
 ·rw [e] at hb; exact List.mem_cons_of_mem _ hb
 ·rw [e] at hb
  unfold frs at hb
  rw [List.filterMap_cons,hf] at hb
  exact hb
theorem Inv.stkFree (I:Inv X pins σ H s):∀ b ∈ frs X.stack,H b=none:=fun b hb=>by
 rcases List.mem_cons.mp (I.stkSub b hb) with e | hb
 ·rw [e]; exact I.free
 ·obtain ⟨_,o,ho,_⟩:=I.ok.funs.mem hb
  exact I.base.free b o ho (I.ok.frf b hb) fun z=>I.ok.exfs b z hb
theorem Inv.step {g':Array GenState} {t':Nat} {d':Drawn} {ch:List Addr} (I:Inv X pins σ H s)
  (hch:∀ b ∈ ch,(b ∈ X.ex ∨ X.s₀.heap.objs.size ≤ b)∧b ≠ X.env.locals∧(∀ x c,X.env.cells.lookup x=some c→c ≠ b)∧∀ p ∈ X.pn ++ pins,p.1 ≠ b)
  (keep:∀ b o,b ≠ X.env.locals→b ∉ X.fs→b ∉ ch→s.heap.get? b=some o→H b=none→h'.get? b=some o)
  (slot:∀ b o,b ≠ X.env.locals→b ∈ X.fs→b ∉ ch→s.heap.get? b=some o→H b=none→∃ sl,h'.get? b=some { o with slots:=sl }) (free:∀ b o,b ∉ ch→s.heap.get? b=some o→H b=none→H' b=none)
  (there:∀ b o,b ∉ ch→s.heap.get? b=some o→∃ o',h'.get? b=some o')
  (tups:∀ b xs,H b=some (.tup xs)→H' b=some (.tup xs)) (frzs:∀ b o u,H b=some (.frz o u)→H' b=some (.frz o u)) (tbls:∀ b ps,H b=some (.tbl ps)→∃ more,H' b=some (.tbl (ps ++ more)))
  (ns:∀ m,s.heap.Ns X.env.locals m→h'.Ns X.env.locals m) (hok:HOk X.prog X.w H' h') (hg:AllBare g'):
  Inv X pins σ H' { s with heap:=h',gens:=g',drawn:=d',toks:=t' }:=by
 have neL:∀ b o,X.s₀.heap.get? b=some o→b ≠ X.env.locals:=fun b o e=>Nat.ne_of_lt (Nat.lt_of_lt_of_le (Heap.lt_size e) I.ok.above)
 have neC:∀ b o,X.s₀.heap.get? b=some o→b ∉ X.ex→b ∉ ch:=fun b o e hx hb=>by
  rcases (hch b hb).1 with z | z
  ·exact hx z
  ·exact absurd (Nat.lt_of_lt_of_le (Heap.lt_size e) z) (Nat.lt_irrefl _)
 have cellK:∀ x c,X.env.cells.lookup x=some c→∀ v,s.heap.IsCell c v→h'.IsCell c v:=fun x c e v ⟨o,ho,hd⟩=>by
  have nch:c ∉ ch:=fun z=>(hch c z).2.2.1 x c e rfl
  by_cases hc:c ∈ X.fs
  ·obtain ⟨sl,q⟩:=slot c o (I.cne x c e) hc nch ho (I.freeC x c e)
   exact ⟨_,q,hd⟩
  ·exact ⟨o,keep c o (I.cne x c e) hc nch ho (I.freeC x c e),hd⟩
 refine ⟨I.ok,I.os,hg,⟨fun b o e n hb hx=>?_,fun b o e n hb hx=>?_,fun b o e n hx=>?_,fun b o e hx=>?_,fun b xs e=>tups b xs (I.base.tups b xs e),fun b o xs e=>frzs b o xs (I.base.frzs b o xs e),fun b ps e=>?_⟩,?_,fun x c e=>?_,?_,fun x c e=>?_,fun p hp=>?_,hok,I.len⟩
 ·exact keep b o (neL b o e) hb (neC b o e hx) (I.base.keep b o e n hb hx) (I.base.free b o e n hx)
 ·obtain ⟨sl,e1⟩:=I.base.slot b o e n hb hx
  obtain ⟨sl',e2⟩:=slot b _ (neL b o e) hb (neC b o e hx) e1 (I.base.free b o e n hx)
  exact ⟨sl',e2⟩
 ·obtain ⟨o',e1⟩:=I.base.there b o e hx
  exact free b o' (neC b o e hx) e1 (I.base.free b o e n hx)
 ·obtain ⟨o',e1⟩:=I.base.there b o e hx
  exact there b o' (neC b o e hx) e1
 ·obtain ⟨m1,e1⟩:=I.base.tbls b ps e
  obtain ⟨m2,e2⟩:=tbls b _ e1
  exact ⟨m1 ++ m2,by rw [e2,Array.append_assoc]⟩
 ·obtain ⟨m,hn,hl⟩:=I.loc
  refine ⟨m,ns m hn,fun i x v e1 e2 e3=>?_⟩
  obtain ⟨u,r,l⟩:=hl i x v e1 e2 e3
  refine ⟨u,r,?_⟩
  rcases l with l | ⟨k,c,e,z⟩
  ·exact .inl l
  ·exact .inr ⟨k,c,e,cellK x c e _ z⟩
 ·obtain ⟨v,z⟩:=I.cell x c e
  exact ⟨v,cellK x c e v z⟩
 ·obtain ⟨m,⟨o,_,_,ho,_⟩,_⟩:=I.loc
  exact free _ o (fun z=>(hch _ z).2.1 rfl) ho I.free
 ·obtain ⟨v,o,ho,hd⟩:=I.cell x c e
  exact free c o (fun z=>(hch c z).2.2.1 x c e rfl) ho (I.freeC x c e)
 ·obtain ⟨e,n,ne,nf,d⟩:=I.pin p hp
  have nch:p.1 ∉ ch:=fun z=>(hch p.1 z).2.2.2 p hp rfl
  exact ⟨keep p.1 p.2 ne nf nch e n,free p.1 p.2 nch e n,ne,nf,d⟩
theorem Inv.un {t':Nat} (I:Inv X pins σ H s) (u:Un X.fs [] H H' s.heap h') (hok:HOk X.prog X.w H' h'):Inv X pins σ H' { s with heap:=h',toks:=t' }:=by
 obtain ⟨m,⟨o,es,ep,ho,r⟩,_⟩:=id I.loc
 obtain ⟨sl,hL⟩:=u.any ho I.free (by simp)
 exact I.step (g':=s.gens) (d':=s.drawn) (ch:=[]) (fun _ z=>nomatch z) (fun b o _ hb _ e n=>u.keep b o e n hb (by simp)) (fun b o _ hb _ e n=>u.slot b o e n hb (by simp)) (fun b o _ e n=>u.free b o e n (by simp)) (fun b o _ e=>u.there b o e (by simp)) u.tups u.frzs u.tbls (fun m' hm=>by
  obtain ⟨o',es',ep',ho',r'⟩:=hm
  rw [ho] at ho'; cases ho'
  exact ⟨_,es',ep',hL,r'⟩) hok I.bare
theorem Inv.call {g':Array GenState} {t':Nat} {d':Drawn} {ch:List Addr} (I:Inv X pins σ H s) (u:Un (frs X.stack) ch H H' s.heap h') (hok:HOk X.prog X.w H' h') (hg:AllBare g')
  (hch:∀ b ∈ ch,(b ∈ X.ex ∨ X.s₀.heap.objs.size ≤ b)∧b ≠ X.env.locals∧(∀ x c,X.env.cells.lookup x=some c→c ≠ b)∧∀ p ∈ X.pn ++ pins,p.1 ≠ b):
  Inv X pins σ H' { s with heap:=h',gens:=g',drawn:=d',toks:=t' }:=by
 obtain ⟨m,⟨o,es,ep,ho,r⟩,_⟩:=id I.loc
 obtain ⟨sl,hL⟩:=u.any ho I.free fun z=>(hch _ z).2.1 rfl
 exact I.step (ch:=ch) hch (fun b o hL hb hc e n=>u.keep b o e n (fun z=>(List.mem_cons.mp (I.stkSub b z)).elim hL hb) hc) (fun b o _ _ hc e n=>u.any e n hc) (fun b o hc e n=>u.free b o e n hc) (fun b o hc e=>u.there b o e hc) u.tups u.frzs u.tbls (fun m' hm=>by
  obtain ⟨o',es',ep',ho',r'⟩:=hm
  rw [ho] at ho'; cases ho'
  exact ⟨_,es',ep',hL,r'⟩) hok hg
theorem Inv.turned {t':Nat} {it:Addr} (I:Inv X pins σ H s) (k:∀ b o,b ≠ it→s.heap.get? b=some o→h'.get? b=some o) (hn:H it=none) (hL:it ≠ X.env.locals)
  (h1:it ∈ X.ex ∨ X.s₀.heap.objs.size ≤ it) (h2:∀ x c,X.env.cells.lookup x=some c→c ≠ it) (h3:∀ p ∈ X.pn ++ pins,p.1 ≠ it):Inv X pins σ H { s with heap:=h',toks:=t' }:=by
 have nit:∀ b u,H b=some u→b ≠ it:=fun b u e z=>by rw [z,hn] at e; cases e
 refine I.step (g':=s.gens) (d':=s.drawn) (ch:=[it]) (fun b hb=>?_) (fun b o _ _ hc e _=>k b o (fun z=>hc (by simp [z])) e) (fun b o _ _ hc e _=>⟨o.slots,k b o (fun z=>hc (by simp [z])) e⟩) (fun _ _ _ _ n=>n)
  (fun b o hc e=>⟨o,k b o (fun z=>hc (by simp [z])) e⟩) (fun _ _ e=>e) (fun _ _ _ e=>e) (fun b ps e=>⟨#[],by rw [e]; simp⟩) (fun m hm=>?_) (fun b u e=>?_) I.bare
 ·have e:b=it:=by simpa using hb
  subst e
  exact ⟨h1,hL,h2,h3⟩
 ·obtain ⟨o,es,ep,ho,r⟩:=hm
  exact ⟨o,es,ep,k _ o (Ne.symm hL) ho,r⟩
 ·refine (I.hok b u e).stay (fun c v hc q=>k c v ?_ q) (fun _ q=>q) fun _ _ q=>q
  rcases hc with z | z
  ·rw [z]; exact nit b u e
  ·exact nit c _ z
theorem Inv.tok (I:Inv X pins σ H s) (t:Nat):Inv X pins σ H { s with toks:=t }:=I.un (h':=s.heap) (t':=t) Un.refl I.hok
theorem Inv.kept {t':Nat} (I:Inv X pins σ H s) (k:∀ b u,s.heap.get? b=some u→h'.get? b=some u):Inv X pins σ H { s with heap:=h',toks:=t' }:=I.un (Un.kept k) (I.hok.kept k)
theorem Inv.laid {a:Addr} {o:HO} {t':Nat} (I:Inv X pins σ H s) (k:∀ b u,s.heap.get? b=some u→h'.get? b=some u) (hp:s.heap.objs.size ≤ a) (new:ObjOk X.prog X.w (upd H a o) h' a o):
  Inv X pins σ (upd H a o) { s with heap:=h',toks:=t' }:=I.un (Un.laid k hp (I.hok.fresh hp)) (I.hok.laid k hp new)
theorem Inv.write {x e:Addr} {o:HO} {t':Nat} (I:Inv X pins σ H s) (mu:Mut (H x)) (he:e=x ∨ H e=some (.own x)) (k:∀ b u,b ≠ e→s.heap.get? b=some u→h'.get? b=some u) (heo:∃ u,h'.get? e=some u)
  (new:ObjOk X.prog X.w (upd H x o) h' x o):Inv X pins σ (upd H x o) { s with heap:=h',toks:=t' }:=I.un (Un.write mu he k heo) (I.hok.write mu he k heo new)
theorem Inv.pins_of {pins':List (Addr × Obj)} (I:Inv X pins σ H s) (h:∀ p ∈ pins',s.heap.get? p.1=some p.2∧H p.1=none∧p.1 ≠ X.env.locals∧p.1 ∉ X.fs∧∀ v,p.2.data ≠ .cell v):Inv X pins' σ H s:=
 ⟨I.ok,I.os,I.bare,I.base,I.loc,I.cell,I.free,I.freeC,fun p hp=>(List.mem_append.mp hp).elim (fun z=>I.pin p (List.mem_append_left _ z)) (h p),I.hok,I.len⟩
theorem nodup_ix {N:List Str} (hN:N.Nodup) {i j:Nat} {x:Str} (a:N[i]?=some x) (b:N[j]?=some x):i=j:=by
 obtain ⟨h1,e1⟩:=List.getElem?_eq_some_iff.mp a
 obtain ⟨h2,e2⟩:=List.getElem?_eq_some_iff.mp b
 exact (List.getElem_inj hN).mp (e1.trans e2.symm)
theorem store_ok2 {M:Model} {A:Around} {E:Value→Shared→Prop} {i:Nat} {x:Str} {v:V} {u:Value} {Q:Unit→Shared→Prop} (I:Inv X pins σ H s) (hN:X.N.Nodup) (hi:X.N[i]?=some x) (hx:Loc X.env.scope x) (r:RelV v u)
  (h:∀ s',Inv X pins (σ.set i (some v)) H s'→(∃ a,Heap.SameBut a s.heap s'.heap∧(a=X.env.locals ∨ X.env.cells.lookup x=some a))→Q () s') (hf:X.fn x=true ∨ X.env.scope.names.lookup x=some .local:=by first | exact .inl rfl | exact .inr rfl | assumption):wpAny M A (storeName X.env x u) Q E s:=by
 obtain ⟨m,hn,hl⟩:=id I.loc
 have hcls:(X.env.scope.kind == .class || (X.env.scope.kind == .module && X.env.locals != X.env.globals))=false:=by rw [I.ok.kind]; rfl
 have hiσ:i < σ.length:=by rw [I.len]; exact (List.getElem?_eq_some_iff.mp hi).1
 have cne:=I.cne
 have tracked:∀ {a:Addr} {h':Heap},(∃ o,s.heap.get? a=some o∧H a=none)→Heap.SameBut a s.heap h'→HOk X.prog X.w H h':=fun {a h'} ha hs b ob e=>by
  obtain ⟨_,_,hfree⟩:=ha
  refine (I.hok b ob e).stay (fun c w' hc q=>(hs.2 c ?_).trans q) (fun _ q=>q) fun _ _ q=>q
  rintro rfl
  rcases hc with rfl | hc
  ·rw [hfree] at e; cases e
  ·rw [hfree] at hc; cases hc
 rcases hx with hk | hk
 ·refine wpAny_storeName_local hk hn (fun h' hn' hs=>?_) hcls
  obtain ⟨oL,_,_,hoL,_⟩:=id hn
  refine h _ ⟨I.ok,I.os,I.bare,⟨fun b o e n hb hx=>?_,fun b o e n hb hx=>?_,I.base.free,fun b o e hx=>?_,I.base.tups,I.base.frzs,I.base.tbls⟩,⟨_,hn',fun j y v' e1 e2 e3=>?_⟩,fun y c e=>?_,I.free,I.freeC,fun p hp=>?_,tracked ⟨oL,hoL,I.free⟩ hs,by simpa using I.len⟩ ⟨_,hs,.inl rfl⟩
  ·exact (hs.2 b (Nat.ne_of_lt (Nat.lt_of_lt_of_le (Heap.lt_size e) I.ok.above))).trans (I.base.keep b o e n hb hx)
  ·obtain ⟨sl,e1⟩:=I.base.slot b o e n hb hx
   exact ⟨sl,(hs.2 b (Nat.ne_of_lt (Nat.lt_of_lt_of_le (Heap.lt_size e) I.ok.above))).trans e1⟩
  ·obtain ⟨o',e1⟩:=I.base.there b o e hx
   exact ⟨o',(hs.2 b (Nat.ne_of_lt (Nat.lt_of_lt_of_le (Heap.lt_size e) I.ok.above))).trans e1⟩
  ·by_cases hj:j=i
   ·subst hj
    rw [hi] at e1; cases e1
    rw [List.getElem?_set_self hiσ] at e2
    cases e2
    exact ⟨u,r,.inl ⟨hk,by simp⟩⟩
   ·rw [List.getElem?_set_ne (Ne.symm hj)] at e2
    obtain ⟨u',r',q⟩:=hl j y v' e1 e2 e3
    refine ⟨u',r',?_⟩
    rcases q with ⟨k,e⟩ | ⟨k,c,e,z⟩
    ·refine .inl ⟨k,?_⟩
     have:y ≠ x:=fun e=>hj (nodup_ix hN e1 (e ▸ hi))
     simp [this,e]
    ·exact .inr ⟨k,c,e,z.sameBut hs (cne y c e)⟩
  ·obtain ⟨w',z⟩:=I.cell y c e
   exact ⟨w',z.sameBut hs (cne y c e)⟩
  ·obtain ⟨e,n,ne,nf,d⟩:=I.pin p hp
   exact ⟨(hs.2 p.1 ne).trans e,n,ne,nf,d⟩
 ·have hfn:X.fn x=true:=by
   rcases hf with z | z
   ·exact z
   ·rw [z] at hk; cases hk
  obtain ⟨c,hc⟩:=I.ok.has x (.inl hk)
  obtain ⟨w',z⟩:=I.cell x c hc
  refine wpAny_storeName_cell I.ok.kind hk hc z (fun h' hc' hs=>?_)
  obtain ⟨oc,hoc,hocd⟩:=id z
  refine h { s with heap:=h' } ⟨I.ok,I.os,I.bare,⟨fun b o e n hb hx=>?_,fun b o e n hb hx=>?_,I.base.free,fun b o e hx=>?_,I.base.tups,I.base.frzs,I.base.tbls⟩,⟨m,hn.sameBut hs (Ne.symm (cne x c hc)),fun j y v' e1 e2 e3=>?_⟩,fun y c' e=>?_,I.free,I.freeC,fun p hp=>?_,tracked ⟨oc,hoc,I.freeC x c hc⟩ hs,by simpa using I.len⟩ ⟨c,hs,.inr hc⟩
  ·exact (hs.2 b (Nat.ne_of_lt (Nat.lt_of_lt_of_le (Heap.lt_size e) (I.ok.cab x c hfn hc)))).trans (I.base.keep b o e n hb hx)
  ·obtain ⟨sl,e1⟩:=I.base.slot b o e n hb hx
   exact ⟨sl,(hs.2 b (Nat.ne_of_lt (Nat.lt_of_lt_of_le (Heap.lt_size e) (I.ok.cab x c hfn hc)))).trans e1⟩
  ·obtain ⟨o',e1⟩:=I.base.there b o e hx
   exact ⟨o',(hs.2 b (Nat.ne_of_lt (Nat.lt_of_lt_of_le (Heap.lt_size e) (I.ok.cab x c hfn hc)))).trans e1⟩
  ·by_cases hj:j=i
   ·subst hj
    rw [hi] at e1; cases e1
    rw [List.getElem?_set_self hiσ] at e2
    cases e2
    exact ⟨u,r,.inr ⟨.inl hk,c,hc,hc'⟩⟩
   ·rw [List.getElem?_set_ne (Ne.symm hj)] at e2
    obtain ⟨u',r',q⟩:=hl j y v' e1 e2 e3
    refine ⟨u',r',?_⟩
    rcases q with q | ⟨k,c',e,z'⟩
    ·exact .inl q
    ·refine .inr ⟨k,c',e,z'.sameBut hs ?_⟩
     rintro rfl
     exact hj (nodup_ix hN e1 (I.ok.inj _ _ _ e hc ▸ hi))
  ·by_cases hcc:c'=c
   ·subst hcc; exact ⟨_,hc'⟩
   ·obtain ⟨w2,z2⟩:=I.cell y c' e
    exact ⟨w2,z2.sameBut hs hcc⟩
  ·obtain ⟨e,n,ne,nf,d⟩:=I.pin p hp
   refine ⟨(hs.2 p.1 ?_).trans e,n,ne,nf,d⟩
   intro q
   rw [q,hoc] at e
   have q':oc=p.2:=Option.some.inj e
   exact d w' (by rw [← q']; exact hocd)
theorem store_ok {M:Model} {A:Around} {E:Value→Shared→Prop} {i:Nat} {x:Str} {v:V} {u:Value} {Q:Unit→Shared→Prop} (I:Inv X pins σ H s) (hN:X.N.Nodup) (hi:X.N[i]?=some x) (hx:Loc X.env.scope x) (r:RelV v u)
  (h:∀ s',Inv X pins (σ.set i (some v)) H s'→Q () s') (hf:X.fn x=true ∨ X.env.scope.names.lookup x=some .local:=by first | exact .inl rfl | exact .inr rfl | assumption):wpAny M A (storeName X.env x u) Q E s:=
 store_ok2 I hN hi hx r (fun s' I' _=>h s' I') hf
theorem Inv.call' {s':Shared} {ch:List Addr} (I:Inv X pins σ H s) (ho:s'.os=s.os) (u:Un (frs X.stack) ch H H' s.heap s'.heap) (hok:HOk X.prog X.w H' s'.heap) (hg:AllBare s'.gens)
  (hch:∀ b ∈ ch,(b ∈ X.ex ∨ X.s₀.heap.objs.size ≤ b)∧b ≠ X.env.locals∧(∀ x c,X.env.cells.lookup x=some c→c ≠ b)∧∀ p ∈ X.pn ++ pins,p.1 ≠ b):Inv X pins σ H' s':=by
 obtain ⟨h',g',d',t',o'⟩:=s'
 have e:o'=s.os:=ho
 subst e
 exact I.call (g':=g') (t':=t') (d':=d') u hok hg hch
end
abbrev XK:=Value→Option Addr→Hp→Prop
abbrev St:=List (Option V)
abbrev VK:=V→Hp→Prop
abbrev TE:=St→Hp→VK→Prop
abbrev TT:=St→Hp→(Bool→Hp→Prop)→Prop
abbrev TA:=St→Hp→(List V→Hp→Prop)→Prop
structure Ends where
  nx : St → Hp → Prop
  rt : VK
  bk : St → Hp → Prop := fun _ _ => False
  ct : St → Hp → Prop := fun _ _ => False
abbrev TS:=Ends→St→Hp→Prop
def EP (X:Cx) (pins:List (Addr × Obj)) (σ:St) (Q:VK) (u:Value) (s':Shared):Prop:=∃ v H',Inv X pins σ H' s'∧RelV v u∧Q v H'
def TP (X:Cx) (pins:List (Addr × Obj)) (σ:St) (Q:Bool→Hp→Prop) (b:Bool) (s':Shared):Prop:=∃ H',Inv X pins σ H' s'∧Q b H'
def AP (X:Cx) (pins:List (Addr × Obj)) (σ:St) (Q:List V→Hp→Prop) (us:List Value) (s':Shared):Prop:=∃ vs H',Inv X pins σ H' s'∧Vals vs us∧Q vs H'
def SP (X:Cx) (pins:List (Addr × Obj)) (D:Ends) (f:Flow) (s':Shared):Prop:=
 match f with
 | .next=>∃ σ' H',Inv X pins σ' H' s'∧D.nx σ' H'
 | .brk=>∃ σ' H',Inv X pins σ' H' s'∧D.bk σ' H'
 | .cont=>∃ σ' H',Inv X pins σ' H' s'∧D.ct σ' H'
 | .ret u=>∃ v σ' H',Inv X pins σ' H' s'∧RelV v u∧D.rt v H'
def PE (X:Cx) (e:Expr) (t:TE):Prop:=
 ∀ (pins:List (Addr × Obj)) (s:Shared) (σ:St) (H:Hp) (Q:VK),Inv X pins σ H s→t σ H Q→wpAny (model X.prog X.w) X.A (eval e X.env) (EP X pins σ Q) X.xe s
def PT (X:Cx) (e:Expr) (t:TT):Prop:=
 ∀ (pins:List (Addr × Obj)) (s:Shared) (σ:St) (H:Hp) (Q:Bool→Hp→Prop),Inv X pins σ H s→t σ H Q→wpAny (model X.prog X.w) X.A (isTrue e X.env (eval e X.env)) (TP X pins σ Q) X.xe s
def PW (X:Cx) (e:Expr) (t:TT):Prop:=
 ∀ (whole:Sem Value) (pins:List (Addr × Obj)) (s:Shared) (σ:St) (H:Hp) (Q:Bool→Hp→Prop),Inv X pins σ H s→t σ H Q→wpAny (model X.prog X.w) X.A (isTrue e X.env whole) (TP X pins σ Q) X.xe s
theorem PW.pt {X:Cx} {e:Expr} {t:TT} (h:PW X e t):PT X e t:=h _
def PA (X:Cx) (es:List Expr) (t:TA):Prop:=
 ∀ (pos:Pos) (pins:List (Addr × Obj)) (s:Shared) (σ:St) (H:Hp) (Q:List V→Hp→Prop),Inv X pins σ H s→t σ H Q→wpAny (model X.prog X.w) X.A (spliced (backTo pos (starEach es X.env))) (AP X pins σ Q) X.xe s
def PS (X:Cx) (st:Stmt) (t:TS):Prop:=
 ∀ (pins:List (Addr × Obj)) (s:Shared) (σ:St) (H:Hp) (D:Ends),Inv X pins σ H s→t D σ H→wpAny (model X.prog X.w) X.A (exec st X.env) (SP X pins D) X.xe s
def PSs (X:Cx) (st:List Stmt) (t:TS):Prop:=
 ∀ (pins:List (Addr × Obj)) (s:Shared) (σ:St) (H:Hp) (D:Ends),Inv X pins σ H s→t D σ H→wpAny (model X.prog X.w) X.A (execs st X.env) (SP X pins D) X.xe s
theorem thn {α:Type} {t:Sem α} {Q Q':α→Shared→Prop} {M:Model} {A:Around} {E:Value→Shared→Prop} {s:Shared} (h:wpAny M A t Q E s) (hQ:∀ a s,Q a s→Q' a s):wpAny M A t Q' E s:=wpAny_mono h hQ fun _ _ x=>x
end L2
namespace L2
open PySem PySem.Spec PyProof.Rows
section
variable {X : Cx}
def tVar (i:Nat):TE:=fun σ H Q=>∃ v,σ[i]?=some (some v)∧Q v H
def tC (v:V):TE:=fun _ H Q=>Q v H
theorem pe_var {i:Nat} {x:Str} {pos:Pos} (hN:X.N[i]?=some x) (hv:Vis X.env.scope x) (hd:(x == ("__debug__":Str))=false:=by decide) (hcd:(x == ("__classdict__":Str))=false:=by decide):PE X (.Name x pos) (tVar i):=by
 intro pins s σ H Q I h
 obtain ⟨v,e,h⟩:=h
 obtain ⟨m,hn,hl⟩:=I.loc
 obtain ⟨u,r,l⟩:=hl i x v hN e hv
 have fin:EP X pins σ Q u s:=⟨v,H,I,r,h⟩
 rcases l with ⟨hk,hm⟩ | ⟨hk,c,hc,hcell⟩
 ·exact wpAny_Name (wpAny_loadName_local I.ok.kind hk hn hm fin) hd
 ·rcases hk with hk | hk
  ·exact wpAny_Name (wpAny_loadName_cell I.ok.kind hk hc hcell fin) hd
  ·exact wpAny_Name (wpAny_loadName_free I.ok.kind hk hc hcell fin hcd) hd
theorem pe_int {i j pos}:PE X (.Constant (.int i) j pos) (tC (.int i)):=fun _ _ _ H _ I h=>wpAny_Constant_int ⟨.int i,H,I.tok _,⟨_,rfl⟩,h⟩
theorem pe_bl {b j pos}:PE X (.Constant (.bool b) j pos) (tC (.bl b)):=fun _ _ _ H _ I h=>Constant_bool ⟨.bl b,H,I,rfl,h⟩
theorem pe_non {j pos}:PE X (.Constant .none j pos) (tC .non):=fun _ _ _ H _ I h=>Constant_none ⟨.non,H,I,rfl,h⟩
theorem pe_str {x j pos}:PE X (.Constant (.str x) j pos) (tC (.str x)):=fun _ _ _ H _ I h=>Calls.Constant_str ⟨.str x,H,I.tok _,⟨_,rfl⟩,h⟩
def Gl (X:Cx) (x:Str):Prop:=X.env.kindOf x=some .globalImplicit
theorem ld_glob {E:Value→Shared→Prop} {pins:List (Addr × Obj)} {s:Shared} {σ:St} {H:Hp} {x:Str} {u:Value} {pos:Pos} {Q:Value→Shared→Prop} (I:Inv X pins σ H s) (hg:Gl X x) (hm:X.mg x=some u) (h:Q u s)
  (hd:(x == ("__debug__":Str))=false:=by decide):wpAny (model X.prog X.w) X.A (eval (.Name x pos) X.env) Q E s:=
 Calls.Name_function_global I.ok.kind hg (Calls.loadGlobal_global (by rw [I.ok.glob]; exact I.mod.glob.keeps I.bk) hm h) hd
theorem ld_blt {E:Value→Shared→Prop} {pins:List (Addr × Obj)} {s:Shared} {σ:St} {H:Hp} {x:Str} {u:Value} {pos:Pos} {Q:Value→Shared→Prop} (I:Inv X pins σ H s) (hg:Gl X x) (hm:X.mg x=none) (hv:bootBuiltins x=some u) (h:Q u s)
  (hn:x ≠ "__name__":=by decide) (hd:(x == ("__debug__":Str))=false:=by decide):wpAny (model X.prog X.w) X.A (eval (.Name x pos) X.env) Q E s:=by
 obtain ⟨mb,h1,h2⟩:=I.mod.blt
 exact Calls.Name_function_global I.ok.kind hg (Calls.loadGlobal_builtin (by rw [I.ok.glob]; exact I.mod.glob.keeps I.bk) hm (by rw [I.ok.blt]; exact h1.keeps I.bk) ((h2 x hn).trans hv) h) hd
theorem pe_glob {x:Str} {v:V} {u:Value} {pos:Pos} (hg:Gl X x) (hm:X.mg x=some u) (r:RelV v u) (hd:(x == ("__debug__":Str))=false:=by decide):PE X (.Name x pos) (tC v):=
 fun _ _ _ H _ I h=>ld_glob I hg hm ⟨v,H,I,r,h⟩ hd
theorem pe_bltn {x:Str} {v:V} {u:Value} {pos:Pos} (hg:Gl X x) (hm:X.mg x=none) (hv:bootBuiltins x=some u) (r:RelV v u) (hn:x ≠ "__name__":=by decide) (hd:(x == ("__debug__":Str))=false:=by decide):PE X (.Name x pos) (tC v):=
 fun _ _ _ H _ I h=>ld_blt I hg hm hv ⟨v,H,I,r,h⟩ hn hd
variable {a b : Expr} {ta tb : TE} {pos : Pos}
def PC (X:Cx) (op:CmpOp) (a b:Expr) (t:TE):Prop:=
 ∀ (pins:List (Addr × Obj)) (s:Shared) (σ:St) (H:Hp) (Q:VK),Inv X pins σ H s→t σ H Q→
  wpAny (model X.prog X.w) X.A (eval a X.env) (fun v s₁=>wpAny (model X.prog X.w) X.A (eval b X.env) (fun u s₂=>wpAny (model X.prog X.w) X.A (compareOp op v u) (EP X pins σ Q) X.xe s₂) X.xe s₁) X.xe s
theorem nobehind (b:Expr) {op:CmpOp} (h:op ≠ .In) (h2:op ≠ .NotIn):behindInMarks op b=false:=by
 have e1:(op == CmpOp.In)=false:=by cases op <;> first | rfl | exact absurd rfl h
 have e2:(op == CmpOp.NotIn)=false:=by cases op <;> first | rfl | exact absurd rfl h2
 cases b <;> simp [behindInMarks,e1,e2]
def tB (t:TE):TT:=fun σ H Q=>t σ H fun x H1=>∃ c,x=.bl c∧Q c H1
theorem pt_cmp {op:CmpOp} {t:TE} (h:PC X op a b t) (h1:behindInMarks op b=false:=by first | exact nobehind _ (by decide) (by decide) | rfl):PT X (.Compare a [op] [b] pos) (tB t):=by
 intro pins s σ H Q I hw
 refine wpAny_isTrue_Compare1 (thn (h pins s σ H _ I hw) fun v s1 h1=>thn h1 fun u s2 h2=>thn h2 fun c s3 ⟨x,H1,I1,r1,q1⟩=>?_) h1
 obtain ⟨d,rfl,q⟩:=q1
 cases r1
 exact wpAny_truthy_bool ⟨H1,I1,q⟩
theorem pt_val {e:Expr} {t:TE} (h:PE X e t) (he:∀ whole,isTrue e X.env whole=(do let v ← whole; standAt e.pos; holding [v] (truthy v)):=by intro _; rfl):PT X e (tB t):=by
 intro pins s σ H Q I hw
 refine isTrue_plain (thn (h pins s σ H _ I hw) fun v s1 ⟨x,H1,I1,r1,q1⟩=>?_) (he _)
 obtain ⟨d,rfl,q⟩:=q1
 cases r1
 exact wpAny_truthy_bool ⟨H1,I1,q⟩
variable {tA tB' : TT} {rest : List Expr}
def tAnd (t u:TT):TT:=fun σ H Q=>t σ H fun c H1=>if c=true then u σ H1 Q else Q false H1
def tOr (t u:TT):TT:=fun σ H Q=>t σ H fun c H1=>if c=true then Q true H1 else u σ H1 Q
def tNot (t:TT):TT:=fun σ H Q=>t σ H fun c H1=>Q (!c) H1
theorem pw_and1 (ha:PT X a tA):PW X (.BoolOp .And [a] pos) tA:=by
 intro wh pins s σ H Q I h
 refine isTrue_and (thn (ha pins s σ H Q I h) fun c s1 e=>?_)
 cases c with
 | true=>exact isTrue_and_nil e
 | false=>exact e
theorem pw_or1 (ha:PT X a tA):PW X (.BoolOp .Or [a] pos) tA:=by
 intro wh pins s σ H Q I h
 refine isTrue_or (thn (ha pins s σ H Q I h) fun c s1 e=>?_)
 cases c with
 | false=>exact isTrue_or_nil e
 | true=>exact e
theorem pw_and (ha:PT X a tA) (hb:PW X (.BoolOp .And (b :: rest) pos) tB'):PW X (.BoolOp .And (a :: b :: rest) pos) (tAnd tA tB'):=by
 intro wh pins s σ H Q I h
 refine isTrue_and (thn (ha pins s σ H _ I h) fun c s1 ⟨H1,I1,q1⟩=>?_)
 cases c with
 | true=>exact hb wh pins s1 σ H1 Q I1 q1
 | false=>exact ⟨H1,I1,q1⟩
theorem pw_or (ha:PT X a tA) (hb:PW X (.BoolOp .Or (b :: rest) pos) tB'):PW X (.BoolOp .Or (a :: b :: rest) pos) (tOr tA tB'):=by
 intro wh pins s σ H Q I h
 refine isTrue_or (thn (ha pins s σ H _ I h) fun c s1 ⟨H1,I1,q1⟩=>?_)
 cases c with
 | true=>exact ⟨H1,I1,q1⟩
 | false=>exact hb wh pins s1 σ H1 Q I1 q1
theorem pt_not (ha:PT X a tA):PT X (.UnaryOp .Not a pos) (tNot tA):=by
 intro pins s σ H Q I h
 exact isTrue_not (ha pins s σ H (fun c H1=>Q (!c) H1) I h)
def tAndV (ta tb:TE):TE:=fun σ H Q=>ta σ H fun x H1=>∃ c,x=.bl c∧if c=true then tb σ H1 Q else Q (.bl false) H1
def tNotV (ta:TE):TE:=fun σ H Q=>ta σ H fun x H1=>∃ c,x=.bl c∧Q (.bl (!c)) H1
theorem pe_one {op} {t:TE} (h:PE X a t):PE X (.BoolOp op [a] pos) t:=fun pins s σ H Q I hw=>BoolOp_one (h pins s σ H Q I hw)
theorem pe_and (ha:PE X a ta) (hb:PE X (.BoolOp .And (b :: rest) pos) tb):PE X (.BoolOp .And (a :: b :: rest) pos) (tAndV ta tb):=by
 intro pins s σ H Q I h
 refine BoolOp_and (thn (ha pins s σ H _ I h) fun v s1 ⟨x,H1,I1,r1,q1⟩=>?_)
 obtain ⟨c,rfl,q1⟩:=q1
 cases r1
 refine wpAny_truthy_bool ?_
 cases c with
 | true=>exact hb pins s1 σ H1 Q I1 q1
 | false=>exact ⟨.bl false,H1,I1,rfl,q1⟩
theorem pe_not (ha:PE X a ta):PE X (.UnaryOp .Not a pos) (tNotV ta):=by
 intro pins s σ H Q I h
 refine UnaryOp_ (thn (ha pins s σ H _ I h) fun v s1 ⟨x,H1,I1,r1,q1⟩=>?_)
 obtain ⟨c,rfl,q1⟩:=q1
 cases r1
 exact not_of (wpAny_truthy_bool ⟨.bl (!c),H1,I1,rfl,q1⟩)
def tIf (t:TT) (ta tb:TE):TE:=fun σ H Q=>t σ H fun c H1=>if c=true then ta σ H1 Q else tb σ H1 Q
theorem pe_ifExp {c:Expr} (hc:PT X c tA) (ha:PE X a ta) (hb:PE X b tb):PE X (.IfExp c a b pos) (tIf tA ta tb):=by
 intro pins s σ H Q I h
 refine wpAny_IfExp (thn (hc pins s σ H _ I h) fun d s1 ⟨H1,I1,q1⟩=>?_)
 cases d with
 | true=>exact ha pins s1 σ H1 Q I1 q1
 | false=>exact hb pins s1 σ H1 Q I1 q1
end
end L2
namespace L2
open PySem PySem.Spec PyProof.Rows
def SqL (K:PySem.W.Frag) (H:Hp) (a:Addr) (xs:List V):Prop:=
 Rd H a (.lst xs) ∨
  ∃ (o:Obj) (its:Array Value) (n:Nat),K.lookup a=some o∧o.cls=.type "list"∧o.dict=none∧o.data=.seq its n∧its.size ≤ sizeLine∧Vals xs its.toList
def SqT (K:PySem.W.Frag) (H:Hp) (a:Addr) (xs:List V):Prop:=
 Rd H a (.tup xs) ∨
  ∃ (o:Obj) (its:Array Value) (n:Nat),K.lookup a=some o∧o.cls=.type "tuple"∧o.data=.seq its n∧its.size ≤ sizeLine∧Vals xs its.toList
def absV:Value→Option V
 | .none=>some .non
 | .bool b=>some (.bl b)
 | .int i _=>some (.int i)
 | .str x _=>some (.str x)
 | .bytes b _=>some (.byt b)
 | .float b _=>some (.flt b)
 | .ref a=>some (.ref a)
 | .type n=>some (.ty n)
 | _=>none
theorem RelV.abs {x:V} {u:Value} (r:RelV x u):absV u=some x:=by
 cases x with
 | non=>cases r; rfl
 | bl _=>cases r; rfl
 | int _=>obtain ⟨t,rfl⟩:=r; rfl
 | str _=>obtain ⟨t,rfl⟩:=r; rfl
 | byt _=>obtain ⟨t,rfl⟩:=r; rfl
 | flt _=>obtain ⟨t,rfl⟩:=r; rfl
 | ref _=>cases r; rfl
 | ty _=>cases r; rfl
theorem RelV.inj {x y:V} {u:Value} (r:RelV x u) (q:RelV y u):x=y:=Option.some.inj (r.abs.symm.trans q.abs)
theorem Vals.inj:∀ {xs ys:List V} {us:List Value},Vals xs us→Vals ys us→xs=ys
 | _,_,_,.nil,.nil=>rfl
 | _,_,_,.cons r t,.cons r' t'=>by rw [r.inj r',Vals.inj t t']
section
variable {X : Cx} {pins : List (Addr × Obj)} {σ : St} {H : Hp} {s : Shared} {a : Addr} {xs ys : List V}
theorem SqL.of {K:PySem.W.Frag} (h:H a=some (.lst xs)):SqL K H a xs:=.inl (.inl h)
theorem SqT.of {K:PySem.W.Frag} (h:H a=some (.tup xs)):SqT K H a xs:=.inl (.inl h)
theorem Inv.list (I:Inv X pins σ H s) (h:SqL X.K H a xs):∃ its:List Value,Vals xs its∧PlainL s.heap a its.toArray∧xs.length ≤ sizeLine:=by
 rcases h with h | ⟨o,its,n,hk,hc,hd,hs,hz,r⟩
 ·obtain ⟨z,its,n,r,e⟩:=h.ok I.hok
  exact ⟨its,r,⟨_,n,e,rfl,rfl,rfl⟩,z⟩
 ·refine ⟨its.toList,r,⟨o,n,I.kIn a o hk,hc,hd,by simpa using hs⟩,?_⟩
  have e:=r.length
  simp only [Array.length_toList] at e
  omega
theorem Inv.tuple (I:Inv X pins σ H s) (h:SqT X.K H a xs):∃ its:List Value,Vals xs its∧IsTup s.heap a its.toArray∧xs.length ≤ sizeLine:=by
 rcases h with h | ⟨o,its,n,hk,hc,hs,hz,r⟩
 ·obtain ⟨z,its,r,p⟩:=h.ok I.hok
  exact ⟨its,r,p,z⟩
 ·refine ⟨its.toList,r,⟨o,I.kIn a o hk,hc,n,by simpa using hs⟩,?_⟩
  have e:=r.length
  simp only [Array.length_toList] at e
  omega
theorem Inv.list_inj (I:Inv X pins σ H s) (h:SqL X.K H a xs) (h':SqL X.K H a ys):xs=ys:=by
 obtain ⟨its,r,⟨o,n,e,_,_,d⟩,_⟩:=I.list h
 obtain ⟨its',r',⟨o',n',e',_,_,d'⟩,_⟩:=I.list h'
 rw [e] at e'; cases e'
 rw [d] at d'
 injection d' with d1 _
 have:its=its':=by simpa using congrArg Array.toList d1
 subst this
 exact r.inj r'
theorem Inv.tuple_inj (I:Inv X pins σ H s) (h:SqT X.K H a xs) (h':SqT X.K H a ys):xs=ys:=by
 obtain ⟨its,r,⟨o,e,_,n,d⟩,_⟩:=I.tuple h
 obtain ⟨its',r',⟨o',e',_,n',d'⟩,_⟩:=I.tuple h'
 rw [e] at e'; cases e'
 rw [d] at d'
 injection d' with d1 _
 have:its=its':=by simpa using congrArg Array.toList d1
 subst this
 exact r.inj r'
end
abbrev Cx.wish (X:Cx) (E:Value→Shared→Prop):Cx:={ X with xe:=E }
abbrev Cx.nox (X:Cx):Cx:=X.wish fun _ _=>False
theorem Cx.Ok.wish {X:Cx} (ok:X.Ok) (E:Value→Shared→Prop):(X.wish E).Ok:=
 ⟨ok.mod,ok.kind,ok.glob,ok.blt,ok.above,ok.inj,ok.has,ok.cab,ok.hd,ok.frames,ok.stk,ok.exf,ok.bs,ok.bsz,ok.noex,ok.exfs,ok.funs,ok.frf⟩
theorem Cx.Ok.unwish {X:Cx} {E:Value→Shared→Prop} (ok:(X.wish E).Ok):X.Ok:=
 ⟨ok.mod,ok.kind,ok.glob,ok.blt,ok.above,ok.inj,ok.has,ok.cab,ok.hd,ok.frames,ok.stk,ok.exf,ok.bs,ok.bsz,ok.noex,ok.exfs,ok.funs,ok.frf⟩
section
variable {X : Cx} {pins : List (Addr × Obj)} {σ : St} {H : Hp} {s : Shared} {E : Value → Shared → Prop}
theorem Inv.wish (I:Inv X pins σ H s) (E:Value→Shared→Prop):Inv (X.wish E) pins σ H s:=⟨I.ok.wish E,I.os,I.bare,I.base,I.loc,I.cell,I.free,I.freeC,I.pin,I.hok,I.len⟩
theorem Inv.unwish (I:Inv (X.wish E) pins σ H s):Inv X pins σ H s:=⟨I.ok.unwish,I.os,I.bare,I.base,I.loc,I.cell,I.free,I.freeC,I.pin,I.hok,I.len⟩
theorem SP.unwish {D:Ends} {f:Flow} {s':Shared} (h:SP (X.wish E) pins D f s'):SP X pins D f s':=by
 cases f with
 | next=>obtain ⟨σ',H',I,q⟩:=h; exact ⟨σ',H',I.unwish,q⟩
 | brk=>obtain ⟨σ',H',I,q⟩:=h; exact ⟨σ',H',I.unwish,q⟩
 | cont=>obtain ⟨σ',H',I,q⟩:=h; exact ⟨σ',H',I.unwish,q⟩
 | ret u=>obtain ⟨v,σ',H',I,r,q⟩:=h; exact ⟨v,σ',H',I.unwish,r,q⟩
theorem PE.nox {e:Expr} {t:TE} (h:PE X.nox e t):PE X e t:=fun pins s σ H Q I hw=>
 wpAny_mono (h pins s σ H Q (I.wish _) hw) (fun _ _ ⟨v,H',I',r,q⟩=>⟨v,H',I'.unwish,r,q⟩) fun _ _ z=>False.elim z
theorem PT.nox {e:Expr} {t:TT} (h:PT X.nox e t):PT X e t:=fun pins s σ H Q I hw=>
 wpAny_mono (h pins s σ H Q (I.wish _) hw) (fun _ _ ⟨H',I',q⟩=>⟨H',I'.unwish,q⟩) fun _ _ z=>False.elim z
theorem PSs.nox {st:List Stmt} {t:TS} (h:PSs X.nox st t):PSs X st t:=fun pins s σ H D I hw=>
 wpAny_mono (h pins s σ H D (I.wish _) hw) (fun _ _ q=>q.unwish) fun _ _ z=>False.elim z
end
section
variable {X : Cx} {st : Stmt} {rest : List Stmt} {t u : TS} {e : Expr} {te : TE} {pos : Pos}
def tNext:TS:=fun D σ H=>D.nx σ H
def tSeq (t u:TS):TS:=fun D σ H=>t { D with nx:=u D } σ H
theorem pss_nil:PSs X [] tNext:=fun _ _ σ H _ I h=>wpAny_execs_nil ⟨σ,H,I,h⟩
theorem pss_cons (h1:PS X st t) (h2:PSs X rest u):PSs X (st :: rest) (tSeq t u):=by
 intro pins s σ H D I h
 refine wpAny_execs_cons (thn (h1 pins s σ H { D with nx:=u D } I h) fun f s1 q=>?_)
 cases f with
 | next=>
  obtain ⟨σ',H',I',q⟩:=q
  exact h2 pins s1 σ' H' D I' q
 | ret v=>exact q
 | brk=>exact q
 | cont=>exact q
theorem pss_one (h1:PS X st t):PSs X [st] t:=by
 intro pins s σ H D I h
 refine wpAny_execs_cons (thn (h1 pins s σ H D I h) fun f s1 q=>?_)
 cases f with
 | next=>exact wpAny_execs_nil q
 | ret v=>exact q
 | brk=>exact q
 | cont=>exact q
theorem Inv.quiet {pins:List (Addr × Obj)} {σ:St} {H:Hp} {s:Shared} (I:Inv X pins σ H s):interactive X.env=false:=by simp [interactive,I.ok.kind]
def tDrop (te:TE):TS:=fun D σ H=>te σ H fun _ H1=>D.nx σ H1
theorem ps_expr (he:PE X e te) (hs:swapsWith e none pos.line X.env=pure false:=by rfl):PS X (.Expr e pos) (tDrop te):=by
 intro pins s σ H D I h
 exact wpAny_Expr_any (thn (he pins s σ H _ I h) fun v s1 ⟨x,H1,I1,r1,q1⟩=>⟨σ,H1,I1,q1⟩) I.quiet hs
def tRet (te:TE):TS:=fun D σ H=>te σ H D.rt
theorem ps_ret (he:PE X e te):PS X (.Return (some e) pos) (tRet te):=by
 intro pins s σ H D I h
 exact wpAny_Return_some (thn (he pins s σ H _ I h) fun v s1 ⟨x,H1,I1,r1,q1⟩=>⟨x,σ,H1,I1,r1,q1⟩)
def tIfS (c:TT) (t u:TS):TS:=fun D σ H=>c σ H fun b H1=>if b=true then t D σ H1 else u D σ H1
theorem ps_if {c:Expr} {a b:List Stmt} {tc:TT} (hc:PT X c tc) (ha:PSs X a t) (hb:PSs X b u):PS X (.If c a b pos) (tIfS tc t u):=by
 intro pins s σ H D I h
 refine wpAny_If (thn (hc pins s σ H _ I h) fun d s1 ⟨H1,I1,q1⟩=>?_)
 cases d with
 | true=>exact ha pins s1 σ H1 D I1 q1
 | false=>exact hb pins s1 σ H1 D I1 q1
def tNever:TS:=fun _ _ _=>False
theorem ps_never:PS X st tNever:=fun _ _ _ _ _ _ h=>h.elim
end
abbrev TG:=V→St→Hp→(St→Hp→Prop)→Prop
abbrev TGs:=List V→St→Hp→(St→Hp→Prop)→Prop
def PG (X:Cx) (target:Expr) (t:TG):Prop:=
 ∀ (pins:List (Addr × Obj)) (s:Shared) (σ:St) (H:Hp) (v:V) (u:Value) (Q:St→Hp→Prop),Inv X pins σ H s→RelV v u→t v σ H Q→
  wpAny (model X.prog X.w) X.A (assign target X.env u) (fun _ s'=>∃ σ' H',Inv X pins σ' H' s'∧Q σ' H') X.xe s
def PGs (X:Cx) (ts:List Expr) (t:TGs):Prop:=
 ∀ (pins:List (Addr × Obj)) (s:Shared) (σ:St) (H:Hp) (vs:List V) (us:List Value) (Q:St→Hp→Prop),Inv X pins σ H s→Vals vs us→t vs σ H Q→
  wpAny (model X.prog X.w) X.A (assignInOrder ((assignEach ts X.env).map (·.2)) us) (fun _ s'=>∃ σ' H',Inv X pins σ' H' s'∧Q σ' H') X.xe s
section
variable {X : Cx} {pos : Pos}
def gName (i:Nat):TG:=fun v σ H Q=>Q (σ.set i (some v)) H
theorem pg_name {i:Nat} {x:Str} (hN:X.N.Nodup) (hi:X.N[i]?=some x) (hx:Loc X.env.scope x) (hf:X.fn x=true ∨ X.env.scope.names.lookup x=some .local:=by first | exact .inl rfl | exact .inr rfl | assumption):PG X (.Name x pos) (gName i):=by
 intro pins s σ H v u Q I r h
 exact wpAny_assign_Name (store_ok I hN hi hx r (fun s' I'=>⟨_,H,I',h⟩) hf)
def gNil:TGs:=fun vs σ H Q=>vs=[]∧Q σ H
def gCons (t:TG) (u:TGs):TGs:=fun vs σ H Q=>∃ v r,vs=v :: r∧t v σ H fun σ' H'=>u r σ' H' Q
theorem pgs_nil:PGs X [] gNil:=by
 intro pins s σ H vs us Q I r h
 obtain ⟨e,h⟩:=h
 subst e
 cases r
 exact assignInOrder_nil ⟨σ,H,I,h⟩
theorem pgs_cons {e:Expr} {es:List Expr} {t:TG} {u:TGs} (h1:PG X e t) (h2:PGs X es u)
  (hs:(assignEach (e :: es) X.env).map (·.2)=assign e X.env :: (assignEach es X.env).map (·.2):=by rfl):PGs X (e :: es) (gCons t u):=by
 intro pins s σ H vs us Q I r h
 obtain ⟨v,vr,e1,h⟩:=h
 subst e1
 cases r with
 | cons r rr=>
  rw [hs]
  refine assignInOrder_cons (thn (h1 pins s σ H _ _ _ I r h) fun _ s1 ⟨σ1,H1,I1,q1⟩=>?_)
  exact h2 pins s1 σ1 H1 _ _ Q I1 rr q1
def gTup (K:PySem.W.Frag) (n:Nat) (t:TGs):TG:=fun v σ H Q=>∃ a xs,v=.ref a∧SqT K H a xs∧xs.length=n∧t xs σ H Q
theorem pg_tup {es:List Expr} {k:Nat} {t:TGs} {n:Nat} (hc:X.calm=true) (h:PGs X es t)
  (hn:(assignEach es X.env).length=n:=by rfl) (hst:(assignEach es X.env).findIdx? (·.1)=none:=by rfl):PG X (.Tuple es k pos) (gTup X.K n t):=by
 intro pins s σ H v u Q I r hw
 obtain ⟨a,xs,e1,hq,hl,hw⟩:=hw
 subst e1
 cases r
 obtain ⟨its,rv,ht,hz⟩:=I.tuple hq
 refine assign_Tuple_tuple (I.ok.hd hc) ht (by simp [hn,← hl,rv.length]) hst fun h' hx=>?_
 have I1:Inv X pins σ H { s with heap:=h' }:=I.kept (t':=s.toks) fun b o e=>hx b o (Nat.ne_of_lt (Heap.lt_size e)) e
 exact h pins _ σ H xs _ Q I1 (by simpa using rv) hw
def tAsg (te:TE) (g:TG):TS:=fun D σ H=>te σ H fun x H1=>g x σ H1 D.nx
theorem ps_asg {tg e:Expr} {te:TE} {g:TG} (he:PE X e te) (hg:PG X tg g) (hs:swapsWithSole [tg] e pos.line X.env=pure false:=by rfl) (hw:swappedStores [tg] e X.env=pure none:=by rfl)
  (h1:(assignEach [tg] X.env).map (·.2)=[assign tg X.env]:=by rfl):PS X (.Assign [tg] e pos) (tAsg te g):=by
 intro pins s σ H D I h
 refine wpAny_Assign_stores (thn (he pins s σ H _ I h) fun v s1 ⟨x,H1,I1,r1,q1⟩=>?_) hs hw
 rw [h1]
 exact thn (hg pins s1 σ H1 x v _ I1 r1 q1) fun _ s2 q=>q
theorem ps_set {i:Nat} {x:Str} {e:Expr} {te:TE} {pos':Pos} (hN:X.N.Nodup) (hi:X.N[i]?=some x) (hx:Loc X.env.scope x) (he:PE X e te) (hs:swapsWith e (some (.Name x pos')) pos.line X.env=pure false:=by rfl) (hf:X.fn x=true ∨ X.env.scope.names.lookup x=some .local:=by first | exact .inl rfl | exact .inr rfl | assumption):
  PS X (.Assign [.Name x pos'] e pos) (tAsg te (gName i)):=by
 intro pins s σ H D I h
 refine wpAny_Assign_Name (thn (he pins s σ H _ I h) fun v s1 ⟨y,H1,I1,r1,q1⟩=>?_) hs
 exact store_ok I1 hN hi hx r1 (fun s2 I2=>⟨_,H1,I2,q1⟩) hf
end
section
variable {X : Cx} {pos : Pos}
def tWhile (c:TT) (tb:TS):TS:=fun D σ H=>∃ W:Nat→St→Hp→Prop,(∃ m,W m σ H)∧∀ m σ H,W m σ H→
 c σ H fun b H1=>if b=true then ∃ N:St→Hp→Prop,(∀ σ' H',N σ' H'→∃ m',m' < m∧W m' σ' H')∧tb { D with nx:=N,ct:=N,bk:=D.nx } σ H1 else D.nx σ H1
theorem ps_while {c:Expr} {body:List Stmt} {tc:TT} {tb:TS} (hp:PassesOwn (model X.prog X.w) X.A X.env X.xe) (hc:PT X c tc) (hb:PSs X body tb):PS X (.While c body [] pos) (tWhile tc tb):=by
 intro pins s σ H D I h
 obtain ⟨W,⟨m0,w0⟩,turn⟩:=h
 refine wpAny_While (codeAny_whileLoop (fun n s'=>∃ σ' H',Inv X pins σ' H' s'∧W n σ' H') ?_ m0 ⟨σ,H,I,w0⟩)
 rintro n s1 ⟨σ1,H1,I1,w1⟩
 refine wpAny_passesOwn hp (thn (hc pins s1 σ1 H1 _ I1 (turn n σ1 H1 w1)) fun b s2 ⟨H2,I2,q2⟩=>?_)
 cases b with
 | true=>
  obtain ⟨N,hN,q2⟩:=q2
  rw [if_pos rfl]
  refine wpAny_passesOwn hp (thn (hb pins s2 σ1 H2 _ I2 q2) fun f s3 q3=>?_)
  cases f with
  | next=>
   obtain ⟨σ3,H3,I3,n3⟩:=q3
   obtain ⟨m',hm,w3⟩:=hN σ3 H3 n3
   exact ⟨m',hm,σ3,H3,I3,w3⟩
  | cont=>
   obtain ⟨σ3,H3,I3,n3⟩:=q3
   obtain ⟨m',hm,w3⟩:=hN σ3 H3 n3
   exact ⟨m',hm,σ3,H3,I3,w3⟩
  | brk=>exact q3
  | ret v=>exact q3
 | false=>
  rw [if_neg Bool.false_ne_true]
  exact wpAny_execs_nil ⟨σ1,H2,I2,q2⟩
end
structure It where
  go : Nat → Hp → Prop
  yld : Nat → Hp → V → Hp → Prop
  stop : Nat → Hp → Prop
def FpOk (X:Cx) (pins:List (Addr × Obj)) (H:Hp) (b:Addr):Prop:=
 H b=none∧b ≠ X.env.locals∧b ∉ X.fs∧(b ∈ X.ex ∨ X.s₀.heap.objs.size ≤ b)∧(∀ x c,X.env.cells.lookup x=some c→c ≠ b)∧∀ p ∈ X.pn ++ pins,p.1 ≠ b
theorem Inv.fpOk {X:Cx} {pins:List (Addr × Obj)} {σ:St} {H H':Hp} {s:Shared} {b:Addr} (I:Inv X pins σ H s) (hb:s.heap.objs.size ≤ b) (hn:H' b=none):FpOk X pins H' b:=by
 refine ⟨hn,Nat.ne_of_gt (Nat.lt_of_lt_of_le I.lt hb),I.nofs hb,.inr (Nat.le_trans I.sz hb),fun x c e z=>?_,fun p hp z=>?_⟩
 ·obtain ⟨v,q⟩:=I.cell x c e
  exact absurd (Nat.lt_of_lt_of_le q.lt (by rw [z]; exact hb)) (Nat.lt_irrefl _)
 ·exact absurd (Nat.lt_of_lt_of_le (Heap.lt_size (I.pin p hp).1) (by rw [z]; exact hb)) (Nat.lt_irrefl _)
structure Turn0 (Cc : Cx → Prop) (P : Program) (w : World) (K : PySem.W.Frag) (tg : Expr) (J : It) (fp : List Addr) (it : Addr) (tn : Nat → Heap → Prop) : Prop where
  mem : it ∈ fp
  obj : ∀ i h, tn i h → ∀ b ∈ fp, ∃ o, h.get? b = some o ∧ ∀ v, o.data ≠ .cell v
  keep : ∀ i h h', tn i h → (∀ b ∈ fp, ∀ o, h.get? b = some o → h'.get? b = some o) → tn i h'
  item : ∀ (X : Cx), X.prog = P → X.w = w → X.K = K → Cc X → ∀ (i : Nat) (pins : List (Addr × Obj)) (s : Shared) (σ : St) (H : Hp) (E : Value → Shared → Prop), Inv X pins σ H s → (∀ b ∈ fp, FpOk X pins H b) → tn i s.heap → J.go i H →
    wpAny (model P w) X.A (pyNext (.ref it)) (fun r s1 => ∃ u, r = some u ∧
      wpAny (model P w) X.A (letOwnedTupleGo tg (.ref it) u) (fun _ s2 => ∃ x H', Inv X pins σ H' s2 ∧ RelV x u ∧ J.yld i H x H' ∧ tn (i + 1) s2.heap ∧ ∀ b ∈ fp, H' b = none) E s1) E s
  done : ∀ (X : Cx), X.prog = P → X.w = w → X.K = K → Cc X → ∀ (i : Nat) (pins : List (Addr × Obj)) (s : Shared) (σ : St) (H : Hp) (E : Value → Shared → Prop), Inv X pins σ H s → (∀ b ∈ fp, FpOk X pins H b) → tn i s.heap → J.stop i H →
    wpAny (model P w) X.A (pyNext (.ref it)) (fun r s1 => r = none ∧ Inv X pins σ H s1) E s
  self : ∀ (A : Around) (i : Nat) (s : Shared) (Q : Value → Shared → Prop) (E : Value → Shared → Prop), tn i s.heap → Q (.ref it) s → wpAny (model P w) A (pyIter (.ref it)) Q E s
abbrev Turn:=Turn0 fun X=>X.calm=true
abbrev TI:=St→Hp→(It→Hp→Prop)→Prop
def PIE0 (Cc:Cx→Prop) (X:Cx) (pins:List (Addr × Obj)) (σ:St) (tg:Expr) (R:It→Hp→Prop) (itv:Value) (s2:Shared):Prop:=
 ∃ (it:Addr) (fp:List Addr) (tn:Nat→Heap→Prop) (J:It) (H':Hp),itv=.ref it∧Inv X pins σ H' s2∧Turn0 Cc X.prog X.w X.K tg J fp it tn∧tn 0 s2.heap∧(∀ b ∈ fp,FpOk X pins H' b)∧R J H'
def PI0 (Cc:Cx→Prop) (X:Cx) (tg iter:Expr) (wi:TI):Prop:=
 ∀ (pins:List (Addr × Obj)) (s:Shared) (σ:St) (H:Hp) (R:It→Hp→Prop),Inv X pins σ H s→wi σ H R→
  wpAny (model X.prog X.w) X.A (eval iter X.env) (fun v s1=>wpAny (model X.prog X.w) X.A (pyIter v) (PIE0 Cc X pins σ tg R) X.xe s1) X.xe s
abbrev PIE:=PIE0 fun X=>X.calm=true
abbrev PI:=PI0 fun X=>X.calm=true
theorem go_of {M : Model} {A : Around} {E : Value → Shared → Prop} {s : Shared} {tg : Expr} {it : Addr} {u : Value} {o : Obj} {n : String} {vs : Array Value} {Q : Unit → Shared → Prop} (ho : s.heap.get? it = some o) (hc : o.cls = .type n) (hd : o.data = .fields vs)
    (hn : ["enumerate", "zip", "dict_itemiterator", "dict_reverseitemiterator", "odict_iterator", "itertools.zip_longest", "itertools.pairwise"].contains n = false) (hQ : Q () s) : wpAny M A (letOwnedTupleGo tg (.ref it) u) Q E s := by
  unfold letOwnedTupleGo
  cases tg <;> first
    | exact wpAny_pure hQ
    | (cases u <;> first
        | exact wpAny_pure hQ
        | (refine wpAny_bind (wpAny_load ho ?_)
           rw [hc, hd]
           show wpAny M A (if (["enumerate", "zip", "dict_itemiterator", "dict_reverseitemiterator", "odict_iterator", "itertools.zip_longest", "itertools.pairwise"].contains n && vs[0]? == some (rawInt _)) = true then _ else _) Q E s
           rw [if_neg (by intro h; rw [hn, Bool.false_and] at h; cases h)]
           exact wpAny_pure hQ))
def Itl (K:PySem.W.Frag) (a:Addr):It:=
 ⟨fun i H=>∃ xs x,SqL K H a xs∧xs[i]?=some x,fun i H x H'=>H'=H∧∀ xs,SqL K H a xs→xs[i]?=some x,fun i H=>∃ xs,SqL K H a xs∧xs.length ≤ i⟩
def Itr (lo:Int) (n:Nat):It:=⟨fun i _=>i < n,fun i H x H'=>H'=H∧x=.int (lo + i),fun i _=>n ≤ i⟩
theorem turn_list {P:Program} {w:World} {K:PySem.W.Frag} {tg:Expr} (a it:Addr):Turn P w K tg (Itl K a) [it] it (fun i h=>h.IsListIter it a i) where
 mem:=by simp
 obj:=fun i h st b hb=>by
  have e:b=it:=by simpa using hb
  subst e
  obtain ⟨o,e,c,d⟩:=st
  exact ⟨o,e,fun v z=>by rw [d] at z; cases z⟩
 keep:=fun i h h' st k=>st.at fun o e=>k it (by simp) o e
 item:=by
  intro X hP hw hK hc i pins s σ H E I hf st hg
  subst hP hw hK
  obtain ⟨xs,x,hq,hx⟩:=hg
  obtain ⟨its,rv,p,hz⟩:=I.list hq
  obtain ⟨u,hu,ru⟩:=rv.get hx
  obtain ⟨f0,f1,f2,f3,f4,f5⟩:=hf it (by simp)
  refine wpAny_pyNext_list_item st p.isList (x:=u) (by simpa using hu) fun h' st' sb=>?_
  have I1:Inv X pins σ H { s with heap:=h' }:=I.turned (t':=s.toks) (fun b o hb e=>(sb.2 b hb).trans e) f0 f1 f3 f4 f5
  obtain ⟨o,e,c,d⟩:=id st'
  exact ⟨u,rfl,go_of (s:={ s with heap:=h' }) e c d (by decide) ⟨x,H,I1,ru,⟨rfl,fun ys hy=>by rw [I.list_inj hy hq]; exact hx⟩,st',fun b hb=>(hf b hb).1⟩⟩
 done:=by
  intro X hP hw hK hc i pins s σ H E I hf st hg
  subst hP hw hK
  obtain ⟨xs,hq,hx⟩:=hg
  obtain ⟨its,rv,p,hz⟩:=I.list hq
  obtain ⟨f0,f1,f2,f3,f4,f5⟩:=hf it (by simp)
  have hl:=rv.length
  exact wpAny_pyNext_list_end (I.ok.hd hc) st p.isList (by simp; omega) fun h' eb=>⟨rfl,I.turned (t':=s.toks) (fun b o hb e=>eb b o hb e) f0 f1 f3 f4 f5⟩
 self:=fun _ _ _ _ _ st h=>wpAny_pyIter_listiter st h
theorem turn_range {P:Program} {w:World} {K:PySem.W.Frag} {tg:Expr} (it:Addr) (lo:Int) (n:Nat):Turn P w K tg (Itr lo n) [it] it (fun i h=>IsRangeIter h it (lo + (i:Nat) * 1) ((n:Int) - (i:Nat)) 1) where
 mem:=by simp
 obj:=fun i h st b hb=>by
  have e:b=it:=by simpa using hb
  subst e
  exact ⟨_,st,fun v z=>by
   have z':Data.fields _=Data.cell v:=z
   cases z'⟩
 keep:=fun i h h' st k=>k it (by simp) _ st
 item:=by
  intro X hP hw hK hc i pins s σ H E I hf st hg
  subst hP hw hK
  obtain ⟨f0,f1,f2,f3,f4,f5⟩:=hf it (by simp)
  have W:=Walks.range (prog:=X.prog) (w:=X.w) (I.ok.hd hc) it lo 1 n
  refine W.item i s _ _ hg st fun v h' tk hv st' kk=>?_
  obtain ⟨t,rfl⟩:=hv
  have I1:Inv X pins σ H { s with heap:=h',toks:=tk }:=I.turned (fun b o hb e=>kk b o (by simpa using hb) e) f0 f1 f3 f4 f5
  refine ⟨_,rfl,go_of (s:={ s with heap:=h',toks:=tk }) (n:="range_iterator") st' rfl rfl (by decide) ⟨.int (lo + i),H,I1,⟨t,?_⟩,⟨rfl,rfl⟩,st',fun b hb=>(hf b hb).1⟩⟩
  rw [Int.mul_one]
 done:=by
  intro X hP hw hK hc i pins s σ H E I hf st hg
  subst hP hw hK
  obtain ⟨f0,f1,f2,f3,f4,f5⟩:=hf it (by simp)
  exact wpAny_pyNext_range_end (I.ok.hd hc) st (by have:n ≤ i:=hg; omega) fun h' eb=>⟨rfl,I.turned (t':=s.toks) (fun b o hb e=>eb b o hb e) f0 f1 f3 f4 f5⟩
 self:=fun _ _ _ _ _ st h=>wpAny_pyIter_rangeiter st h
end L2
namespace L2
open PySem PySem.Spec PyProof.Rows
section
variable {X : Cx} {tg : Expr}
def iList (K:PySem.W.Frag) (tl:TE):TI:=fun σ H R=>tl σ H fun x H1=>∃ a,x=.ref a∧(∃ xs,SqL K H1 a xs)∧R (Itl K a) H1
theorem pi_list {l:Expr} {tl:TE} (hl:PE X l tl):PI X tg l (iList X.K tl):=by
 intro pins s σ H R I h
 refine thn (hl pins s σ H _ I h) fun v s1 ⟨x,H1,I1,r1,q1⟩=>?_
 obtain ⟨a,e,⟨xs,hq⟩,q⟩:=q1
 subst e
 cases r1
 obtain ⟨its,rv,p,hz⟩:=I1.list hq
 refine wpAny_pyIter_list p.isList ?_
 refine ⟨s1.heap.objs.size,[s1.heap.objs.size],_,_,H1,rfl,I1.kept (t':=s1.toks) fun b o e=>Heap.get?_push_of_some _ e,turn_list a _,⟨_,Heap.get?_push_size _ rfl,rfl,rfl⟩,fun b hb=>?_,q⟩
 have e:b=s1.heap.objs.size:=by simpa using hb
 subst e
 exact I1.fpOk (Nat.le_refl _) (I1.hok.fresh (Nat.le_refl _))
theorem range_it {pins:List (Addr × Obj)} {σ:St} {H:Hp} {s:Shared} {R:It→Hp→Prop} {E:Value→Shared→Prop} {lo hi:Int} {t u v:Tok} {tk:Nat} (I:Inv X pins σ H s) (h1:-(2 ^ 62) ≤ lo) (h2:lo < 2 ^ 62) (h3:-(2 ^ 62) ≤ hi) (h4:hi < 2 ^ 62)
  (q:R (Itr lo (hi - lo).toNat) H):wpAny (model X.prog X.w) X.A (pyIter (.ref s.heap.objs.size)) (PIE X pins σ tg R) E { s with heap:=s.heap.push { cls:=.type "range",data:=.fields #[.int lo t,.int hi u,.int 1 v] },toks:=tk }:=by
 refine wpAny_pyIter_range (IsRange.new ..) (small_one h1 h2 h3 h4) ?_
 have I1:Inv X pins σ H { s with heap:=s.heap.push { cls:=.type "range",data:=.fields #[.int lo t,.int hi u,.int 1 v] },toks:=tk }:=I.kept fun b o e=>Heap.get?_push_of_some _ e
 refine ⟨(s.heap.push { cls:=.type "range",data:=.fields #[.int lo t,.int hi u,.int 1 v] }).objs.size,[(s.heap.push { cls:=.type "range",data:=.fields #[.int lo t,.int hi u,.int 1 v] }).objs.size],_,_,H,rfl,
  I1.kept (t':=tk) fun b o e=>Heap.get?_push_of_some _ e,turn_range _ lo (hi - lo).toNat,?_,fun b hb=>?_,q⟩
 ·have e1:lo + ((0:Nat):Int) * 1=lo:=by simp
  have e2:(((hi - lo).toNat:Nat):Int) - ((0:Nat):Int)=Builtin.Range.rangeSize lo hi 1:=by rw [rangeSize_one]; split <;> omega
  show IsRangeIter _ _ (lo + ((0:Nat):Int) * 1) ((((hi - lo).toNat:Nat):Int) - ((0:Nat):Int)) 1
  rw [e1,e2]
  exact Heap.get?_push_size _ rfl
 ·have e:b=(s.heap.push { cls:=.type "range",data:=.fields #[.int lo t,.int hi u,.int 1 v] }).objs.size:=by simpa using hb
  subst e
  exact I1.fpOk (Nat.le_refl _) (I1.hok.fresh (Nat.le_refl _))
def iRng1 (ta:TA):TI:=fun σ H R=>ta σ H fun vs H1=>∃ j:Int,vs=[.int j]∧-(2 ^ 62) ≤ j∧j < 2 ^ 62∧R (Itr 0 j.toNat) H1
theorem pi_range1 {a:Expr} {ta:TA} {p pos:Pos} (hg:Gl X "range") (hm:X.mg "range"=none) (ha:PA X [a] ta) (hs:starEach [a] X.env=[(false,eval a X.env)]:=by rfl):PI X tg (.Call (.Name "range" p) [a] [] pos) (iRng1 ta):=by
 intro pins s σ H R I h
 refine Call_ (ld_blt I hg hm boot_range (PyProof.Rows.callWith_type1 (thn (ha pos pins s σ H _ I h) fun us s1 ⟨vs,H1,I1,r1,q1⟩=>?_) hs rfl))
 obtain ⟨j,e,q1,q2,q⟩:=q1
 subst e
 cases r1 with
 | cons r rr=>
  cases rr
  obtain ⟨t,rfl⟩:=r
  exact call_range_1 (range_it I1 (by omega) (by omega) q1 q2 (by simpa using q))
def tFor (wi:TI) (g:TG) (tb:TS):TS:=fun D σ H=>wi σ H fun J H1=>∃ W:Nat→Nat→St→Hp→Prop,(∃ m,W 0 m σ H1)∧∀ i m σ H,W i m σ H→
 (J.stop i H∧D.nx σ H) ∨ (J.go i H∧∃ N:St→Hp→Prop,(∀ σ' H',N σ' H'→∃ m',m' < m∧W (i + 1) m' σ' H')∧∀ x H',J.yld i H x H'→g x σ H' fun σ2 H2=>tb { D with nx:=N,ct:=N,bk:=D.nx } σ2 H2)
def pinsAt (fp:List Addr) (h:Heap):List (Addr × Obj):=fp.filterMap fun b=>(h.get? b).map fun o=>(b,o)
theorem mem_pinsAt {fp:List Addr} {h:Heap} {b:Addr} {o:Obj} (hb:b ∈ fp) (e:h.get? b=some o):(b,o) ∈ pinsAt fp h:=List.mem_filterMap.mpr ⟨b,hb,by rw [e]; rfl⟩
theorem of_pinsAt {fp:List Addr} {h:Heap} {p:Addr × Obj} (hp:p ∈ pinsAt fp h):p.1 ∈ fp∧h.get? p.1=some p.2:=by
 obtain ⟨b,hb,e⟩:=List.mem_filterMap.mp hp
 cases q:h.get? b with
 | none=>rw [q] at e; cases e
 | some o=>
  rw [q] at e
  have e':(b,o)=p:=Option.some.inj e
  subst e'
  exact ⟨hb,q⟩
theorem Inv.pinned {pins:List (Addr × Obj)} {σ:St} {H:Hp} {s:Shared} {fp:List Addr} (I:Inv X pins σ H s) (hf:∀ b ∈ fp,FpOk X pins H b) (ho:∀ b ∈ fp,∃ o,s.heap.get? b=some o∧∀ v,o.data ≠ .cell v):Inv X (pins ++ pinsAt fp s.heap) σ H s:=
 I.pins_of fun p hp=>(List.mem_append.mp hp).elim (fun z=>I.pin p (List.mem_append_right _ z)) fun z=>by
  obtain ⟨hb,e⟩:=of_pinsAt z
  obtain ⟨f0,f1,f2,_⟩:=hf p.1 hb
  obtain ⟨o,e',d⟩:=ho p.1 hb
  rw [e] at e'; cases e'
  exact ⟨e,f0,f1,f2,d⟩
theorem Inv.unpinned {pins pl:List (Addr × Obj)} {σ:St} {H:Hp} {s:Shared} (I:Inv X (pins ++ pl) σ H s):Inv X pins σ H s:=I.pins_of fun p hp=>I.pin p (List.mem_append_right _ (List.mem_append_left _ hp))
theorem ps_for {iter:Expr} {body:List Stmt} {wi:TI} {g:TG} {tb:TS} {pos:Pos} (hp:PassesOwn (model X.prog X.w) X.A X.env X.xe) (hc:X.calm=true) (hi:PI X tg iter wi) (hg:PG X tg g) (hb:PSs X body tb)
  (hs:∀ x,foldedSetIterable iter X.env x=pure x:=by intro _; rfl):PS X (.For tg iter body [] pos) (tFor wi g tb):=by
 intro pins s σ H D I h
 refine wpAny_For (thn (hi pins s σ H _ I h) fun v s1 h1=>thn h1 fun itv s2 h2=>?_) hs
 obtain ⟨it,fp,tn,J,H2,e,I2,T,st2,f2,W,⟨m0,w0⟩,turn⟩:=h2
 subst e
 have stat:∀ {H':Hp},(∀ b ∈ fp,H' b=none)→∀ b ∈ fp,FpOk X pins H' b:=fun hn b hb=>⟨hn b hb,(f2 b hb).2⟩
 refine codeAny_forLoop_any (fun n s'=>∃ i σ' H',Inv X pins σ' H' s'∧tn i s'.heap∧(∀ b ∈ fp,H' b=none)∧W i n σ' H') ?_ m0 ⟨0,σ,H2,I2,st2,fun b hb=>(f2 b hb).1,w0⟩
 rintro n s3 ⟨i,σ3,H3,I3,st3,fr3,w3⟩
 rcases turn i n σ3 H3 w3 with ⟨stop,qn⟩ | ⟨go,N,hN,step⟩
 ·refine wpAny_passesOwn hp (thn (T.done X rfl rfl rfl hc i pins s3 σ3 H3 X.xe I3 (stat fr3) st3 stop) fun r s4 ⟨hr,I4⟩=>?_)
  subst hr
  exact wpAny_execs_nil ⟨σ3,H3,I4,qn⟩
 ·refine wpAny_passesOwn hp (thn (T.item X rfl rfl rfl hc i pins s3 σ3 H3 X.xe I3 (stat fr3) st3 go) fun r s4 ⟨u,hr,h4⟩=>?_)
  subst hr
  refine wpAny_passesOwn hp (thn h4 fun _ s5 ⟨x,H5,I5,r5,y5,st5,fr5⟩=>?_)
  have I5':=I5.pinned (stat fr5) (T.obj _ _ st5)
  refine wpAny_passesOwn hp (thn (hg _ s5 σ3 H5 x u _ I5' r5 (step x H5 y5)) fun _ s6 ⟨σ6,H6,I6,q6⟩=>?_)
  refine wpAny_passesOwn hp (thn (hb _ s6 σ6 H6 _ I6 q6) fun f s7 q7=>?_)
  have again:∀ {σ7:St} {H7:Hp},Inv X (pins ++ pinsAt fp s5.heap) σ7 H7 s7→N σ7 H7→∃ m,m < n∧∃ i σ' H',Inv X pins σ' H' s7∧tn i s7.heap∧(∀ b ∈ fp,H' b=none)∧W i m σ' H':=fun {σ7 H7} I7 n7=>by
   obtain ⟨m',hm,w7⟩:=hN σ7 H7 n7
   refine ⟨m',hm,i + 1,σ7,H7,I7.unpinned,T.keep _ _ _ st5 fun b hb o e=>(I7.pin (b,o) (List.mem_append_right _ (List.mem_append_right _ (mem_pinsAt hb e)))).1,fun b hb=>?_,w7⟩
   obtain ⟨o,e,d⟩:=T.obj _ _ st5 b hb
   exact (I7.pin (b,o) (List.mem_append_right _ (List.mem_append_right _ (mem_pinsAt hb e)))).2.1
  cases f with
  | next=>obtain ⟨σ7,H7,I7,n7⟩:=q7; exact again I7 n7
  | cont=>obtain ⟨σ7,H7,I7,n7⟩:=q7; exact again I7 n7
  | brk=>obtain ⟨σ7,H7,I7,q7⟩:=q7; exact ⟨σ7,H7,I7.unpinned,q7⟩
  | ret v=>obtain ⟨x7,σ7,H7,I7,r7,q7⟩:=q7; exact ⟨x7,σ7,H7,I7.unpinned,r7,q7⟩
end
theorem for_list {K:PySem.W.Frag} {a:Addr} {xs:List V} {g:TG} {tb:TS} {D:Ends} {σ:St} {H:Hp} (Pv:Nat→St→Hp→Prop) (h0:Pv 0 σ H) (hl:∀ i σ H,i ≤ xs.length→Pv i σ H→SqL K H a xs)
  (hs:∀ i x σ H,xs[i]?=some x→Pv i σ H→g x σ H fun σ2 H2=>tb { D with nx:=Pv (i + 1),ct:=Pv (i + 1),bk:=D.nx } σ2 H2) (hd:∀ σ H,Pv xs.length σ H→D.nx σ H):
  ∃ W:Nat→Nat→St→Hp→Prop,(∃ m,W 0 m σ H)∧∀ i m σ H,W i m σ H→
   ((Itl K a).stop i H∧D.nx σ H) ∨ ((Itl K a).go i H∧∃ N:St→Hp→Prop,(∀ σ' H',N σ' H'→∃ m',m' < m∧W (i + 1) m' σ' H')∧∀ x H',(Itl K a).yld i H x H'→g x σ H' fun σ2 H2=>tb { D with nx:=N,ct:=N,bk:=D.nx } σ2 H2):=by
 refine ⟨fun i m σ H=>m=xs.length - i∧i ≤ xs.length∧Pv i σ H,⟨xs.length,by simp,Nat.zero_le _,h0⟩,?_⟩
 rintro i m σ H ⟨rfl,hi,p⟩
 have q:=hl i σ H hi p
 by_cases hlt:i < xs.length
 ·refine .inr ⟨⟨xs,xs[i],q,by simp [hlt]⟩,Pv (i + 1),fun σ' H' p'=>⟨xs.length - (i + 1),by omega,rfl,hlt,p'⟩,fun x H' y=>?_⟩
  obtain ⟨e,y⟩:=y
  subst e
  exact hs i x σ _ (y xs q) p
 ·have e:i=xs.length:=by omega
  subst e
  exact .inl ⟨⟨xs,q,Nat.le_refl _⟩,hd σ H p⟩
theorem for_range {lo:Int} {n:Nat} {g:TG} {tb:TS} {D:Ends} {σ:St} {H:Hp} (Pv:Nat→St→Hp→Prop) (h0:Pv 0 σ H)
  (hs:∀ i σ H,i < n→Pv i σ H→g (.int (lo + i)) σ H fun σ2 H2=>tb { D with nx:=Pv (i + 1),ct:=Pv (i + 1),bk:=D.nx } σ2 H2) (hd:∀ σ H,Pv n σ H→D.nx σ H):
  ∃ W:Nat→Nat→St→Hp→Prop,(∃ m,W 0 m σ H)∧∀ i m σ H,W i m σ H→
   ((Itr lo n).stop i H∧D.nx σ H) ∨ ((Itr lo n).go i H∧∃ N:St→Hp→Prop,(∀ σ' H',N σ' H'→∃ m',m' < m∧W (i + 1) m' σ' H')∧∀ x H',(Itr lo n).yld i H x H'→g x σ H' fun σ2 H2=>tb { D with nx:=N,ct:=N,bk:=D.nx } σ2 H2):=by
 refine ⟨fun i m σ H=>m=n - i∧i ≤ n∧Pv i σ H,⟨n,by simp,Nat.zero_le _,h0⟩,?_⟩
 rintro i m σ H ⟨rfl,hi,p⟩
 by_cases hlt:i < n
 ·refine .inr ⟨hlt,Pv (i + 1),fun σ' H' p'=>⟨n - (i + 1),by omega,rfl,hlt,p'⟩,fun x H' y=>?_⟩
  obtain ⟨e,y⟩:=y
  subst e y
  exact hs i σ _ hlt p
 ·have e:i=n:=by omega
  subst e
  exact .inl ⟨Nat.le_refl _,hd σ H p⟩
end L2
namespace L2
open PySem PySem.Spec PyProof.Rows
abbrev R2:=V→V→Hp→VK→Prop
def OpR (X:Cx) (f:Value→Value→Sem Value) (r:R2):Prop:=
 ∀ (pins:List (Addr × Obj)) (s:Shared) (σ:St) (H:Hp) (x y:V) (v u:Value) (Q:VK),Inv X pins σ H s→RelV x v→RelV y u→r x y H Q→
  wpAny (model X.prog X.w) X.A (f v u) (EP X pins σ Q) X.xe s
def CallR (X:Cx) (f:Value) (r:List V→Hp→VK→Prop):Prop:=
 ∀ (pins:List (Addr × Obj)) (s:Shared) (σ:St) (H:Hp) (xs:List V) (us:List Value) (Q:VK),Inv X pins σ H s→Vals xs us→r xs H Q→
  wpAny (model X.prog X.w) X.A (call f us) (EP X pins σ Q) X.xe s
def tOp (r:R2) (ta tb:TE):TE:=fun σ H Q=>ta σ H fun x H1=>tb σ H1 fun y H2=>r x y H2 Q
def rI (C:Int→Int→Prop) (g:Int→Int→V):R2:=fun x y H Q=>∃ i j,x=.int i∧y=.int j∧C i j∧Q (g i j) H
def rI0 (g:Int→Int→V):R2:=fun x y H Q=>∃ i j,x=.int i∧y=.int j∧Q (g i j) H
section
variable {X : Cx} {a b c : Expr} {ta tb tc : TE} {pos : Pos}
theorem binT (ha:PE X a ta) (hb:PE X b tb) {pins:List (Addr × Obj)} {s:Shared} {σ:St} {H:Hp} {R:V→V→Hp→Prop} (I:Inv X pins σ H s)
  (h:ta σ H fun x H1=>tb σ H1 fun y H2=>R x y H2) {Q:Value→Shared→Prop} {f:Value→Value→Sem Value}
  (hf:∀ v u s2 x y H2,Inv X pins σ H2 s2→RelV x v→RelV y u→R x y H2→wpAny (model X.prog X.w) X.A (f v u) Q X.xe s2):
  wpAny (model X.prog X.w) X.A (eval a X.env) (fun v s₁=>wpAny (model X.prog X.w) X.A (eval b X.env) (fun u s₂=>wpAny (model X.prog X.w) X.A (f v u) Q X.xe s₂) X.xe s₁) X.xe s:=by
 refine thn (ha pins s σ H _ I h) fun v s1 ⟨x,H1,I1,r1,q1⟩=>?_
 refine thn (hb pins s1 σ H1 _ I1 q1) fun u s2 ⟨y,H2,I2,r2,q2⟩=>?_
 exact hf v u s2 x y H2 I2 r1 r2 q2
theorem pe_op {op:Operator} {r:R2} (ho:OpR X (binaryOp op) r) (ha:PE X a ta) (hb:PE X b tb):PE X (.BinOp a op b pos) (tOp r ta tb):=by
 intro pins s σ H Q I h
 exact wpAny_BinOp (binT ha hb I h fun v u s2 x y H2 I2 rx ry q=>ho pins s2 σ H2 x y v u Q I2 rx ry q)
theorem opI {f:Value→Value→Sem Value} {C:Int→Int→Prop} {g:Int→Int→Int}
  (rule:∀ (i j:Int) (t u:Tok) (s:Shared) (Q:Value→Shared→Prop) (E:Value→Shared→Prop),C i j→Q (.int (g i j) s.toks) { s with toks:=s.toks + 1 }→wpAny (model X.prog X.w) X.A (f (.int i t) (.int j u)) Q E s):
  OpR X f (rI C fun i j=>.int (g i j)):=by
 intro pins s σ H x y v u Q I rx ry h
 obtain ⟨i,j,rfl,rfl,hc,q⟩:=h
 obtain ⟨t,rfl⟩:=rx
 obtain ⟨t',rfl⟩:=ry
 exact rule i j t t' s _ _ hc ⟨.int (g i j),H,I.tok _,⟨_,rfl⟩,q⟩
theorem opI0 {f:Value→Value→Sem Value} {g:Int→Int→Int}
  (rule:∀ (i j:Int) (t u:Tok) (s:Shared) (Q:Value→Shared→Prop) (E:Value→Shared→Prop),Q (.int (g i j) s.toks) { s with toks:=s.toks + 1 }→wpAny (model X.prog X.w) X.A (f (.int i t) (.int j u)) Q E s):
  OpR X f (rI0 fun i j=>.int (g i j)):=by
 intro pins s σ H x y v u Q I rx ry h
 obtain ⟨i,j,rfl,rfl,q⟩:=h
 obtain ⟨t,rfl⟩:=rx
 obtain ⟨t',rfl⟩:=ry
 exact rule i j t t' s _ _ ⟨.int (g i j),H,I.tok _,⟨_,rfl⟩,q⟩
theorem opB0 {f:Value→Value→Sem Value} {g:Int→Int→Bool}
  (rule:∀ (i j:Int) (t u:Tok) (s:Shared) (Q:Value→Shared→Prop) (E:Value→Shared→Prop),Q (.bool (g i j)) s→wpAny (model X.prog X.w) X.A (f (.int i t) (.int j u)) Q E s):
  OpR X f (rI0 fun i j=>.bl (g i j)):=by
 intro pins s σ H x y v u Q I rx ry h
 obtain ⟨i,j,rfl,rfl,q⟩:=h
 obtain ⟨t,rfl⟩:=rx
 obtain ⟨t',rfl⟩:=ry
 exact rule i j t t' s _ _ ⟨.bl (g i j),H,I,rfl,q⟩
def CDiv (i j:Int):Prop:=0 < j∧j < 1073741824
def CPow (i j:Int):Prop:=0 ≤ j∧j ≤ 1000000∧i.natAbs < 2 ^ 64
def CMul (i j:Int):Prop:=(-(2 ^ 64) < i∧i < 2 ^ 64) ∨ (-(2 ^ 64) < j∧j < 2 ^ 64)
theorem CMul.ok {i j:Int} (h:CMul i j):IntMulOk i j:=by
 rcases h with ⟨h1,h2⟩ | ⟨h1,h2⟩
 ·exact .of_left (intBits_le_64 h1 h2)
 ·exact .of_right (intBits_le_64 h1 h2)
theorem op_add:OpR X (binaryOp .Add) (rI0 fun i j=>.int (i + j)):=opI0 fun _ _ _ _ _ _ _ q=>add_int q
theorem op_sub:OpR X (binaryOp .Sub) (rI0 fun i j=>.int (i - j)):=opI0 fun _ _ _ _ _ _ _ q=>sub_int q
theorem op_mul:OpR X (binaryOp .Mult) (rI CMul fun i j=>.int (i * j)):=opI fun _ _ _ _ _ _ _ hc q=>mul_int q hc.ok
theorem op_fdiv:OpR X (binaryOp .FloorDiv) (rI CDiv fun i j=>.int (i / j)):=opI fun i j _ _ _ _ _ hc q=>by
 have h1:(0:Int) < j:=hc.1
 have h2:j < 1073741824:=hc.2
 exact floordiv_int (by omega) (by rw [Int.fdiv_eq_ediv_of_nonneg i (by omega)]; exact q) (.inl (PyProof.noPylong_small (by omega)))
theorem op_mod:OpR X (binaryOp .Mod) (rI (fun _ j=>0 < j) fun i j=>.int (i % j)):=opI fun i j _ _ _ _ _ hc q=>by
 have h1:(0:Int) < j:=hc
 exact mod_int' (by omega) (by rw [Int.fmod_eq_emod_of_nonneg i (by omega)]; exact q)
theorem op_pow:OpR X (binaryOp .Pow) (rI CPow fun i j=>.int (i ^ j.toNat)):=opI fun _ _ _ _ _ _ _ hc q=>pow_int_small hc.1 hc.2.1 hc.2.2 q
end
def scal:V→V→Bool
 | .non,.non=>true | .non,.int _=>true | .int _,.non=>true | .non,.bl _=>true | .bl _,.non=>true | .non,.str _=>true | .str _,.non=>true
 | .int _,.int _=>true | .bl _,.bl _=>true | .str _,.str _=>true | .byt _,.byt _=>true
 | .int _,.str _=>true | .str _,.int _=>true | .bl _,.str _=>true | .str _,.bl _=>true
 | _,_=>false
def rEq:R2:=fun x y H Q=>scal x y=true∧Q (.bl (decide (x=y))) H
def rNe:R2:=fun x y H Q=>scal x y=true∧Q (.bl (!decide (x=y))) H
theorem dec_int {i j:Int}:decide (V.int i=V.int j)=(i == j):=by
 rw [Bool.eq_iff_iff]
 simp
theorem dec_bl {i j:Bool}:decide (V.bl i=V.bl j)=(i == j):=by
 rw [Bool.eq_iff_iff]
 simp
theorem dec_str {i j:Str}:decide (V.str i=V.str j)=(i == j):=by
 rw [Bool.eq_iff_iff]
 simp
theorem dec_byt {i j:Array UInt8}:decide (V.byt i=V.byt j)=(i.toList == j.toList):=by
 rw [Bool.eq_iff_iff]
 cases i
 cases j
 simp
section
variable {X : Cx} {a b c : Expr} {ta tb tc : TE} {pos : Pos}
theorem fin_bl {pins:List (Addr × Obj)} {σ:St} {H:Hp} {s:Shared} {Q:VK} {k k':Bool} (I:Inv X pins σ H s) (q:Q (.bl k) H) (e:k=k'):EP X pins σ Q (.bool k') s:=by
 subst e
 exact ⟨.bl k,H,I,rfl,q⟩
theorem op_eq:OpR X (compareOp .Eq) rEq:=by
 intro pins s σ H x y v u Q I rx ry h
 obtain ⟨hs,q⟩:=h
 cases x with
 | non=>
  cases rx
  cases y with
  | non=>cases ry; exact PySem.EqNone.eq_none_none (fin_bl I q (by simp))
  | bl j=>cases ry; exact PySem.EqNone.eq_none_bool (fin_bl I q (by simp))
  | int j=>obtain ⟨t',rfl⟩:=ry; exact PySem.EqNone.eq_none_int (fin_bl I q (by simp))
  | str j=>obtain ⟨t',rfl⟩:=ry; exact PySem.EqNone.eq_none_str (fin_bl I q (by simp))
  | _=>exact absurd (show false=true from hs) Bool.false_ne_true
 | bl i=>
  cases rx
  cases y with
  | non=>cases ry; exact PySem.EqNone.eq_bool_none (fin_bl I q (by simp))
  | bl j=>cases ry; exact eq_bool (fin_bl I q dec_bl)
  | str j=>obtain ⟨t',rfl⟩:=ry; exact PySem.EqMixed.eq_bool_str (fin_bl I q (by simp))
  | _=>exact absurd (show false=true from hs) Bool.false_ne_true
 | int i=>
  obtain ⟨t,rfl⟩:=rx
  cases y with
  | non=>cases ry; exact PySem.EqNone.eq_int_none (fin_bl I q (by simp))
  | int j=>obtain ⟨t',rfl⟩:=ry; exact eq_int (fin_bl I q dec_int)
  | str j=>obtain ⟨t',rfl⟩:=ry; exact PySem.EqMixed.eq_int_str (fin_bl I q (by simp))
  | _=>exact absurd (show false=true from hs) Bool.false_ne_true
 | str i=>
  obtain ⟨t,rfl⟩:=rx
  cases y with
  | non=>cases ry; exact PySem.EqNone.eq_str_none (fin_bl I q (by simp))
  | bl j=>cases ry; exact PySem.EqMixed.eq_str_bool (fin_bl I q (by simp))
  | int j=>obtain ⟨t',rfl⟩:=ry; exact PySem.EqMixed.eq_str_int (fin_bl I q (by simp))
  | str j=>obtain ⟨t',rfl⟩:=ry; exact eq_str (fin_bl I q dec_str)
  | _=>exact absurd (show false=true from hs) Bool.false_ne_true
 | byt i=>
  obtain ⟨t,rfl⟩:=rx
  cases y with
  | byt j=>obtain ⟨t',rfl⟩:=ry; exact PySem.W.eq_bytes (fin_bl I q dec_byt)
  | _=>exact absurd (show false=true from hs) Bool.false_ne_true
 | _=>cases y <;> exact absurd (show false=true from hs) Bool.false_ne_true
theorem op_ne:OpR X (compareOp .NotEq) rNe:=by
 intro pins s σ H x y v u Q I rx ry h
 obtain ⟨hs,q⟩:=h
 cases x with
 | non=>
  cases rx
  cases y with
  | non=>cases ry; exact PySem.EqNone.ne_none_none (fin_bl I q (by simp))
  | bl j=>cases ry; exact PySem.EqNone.ne_none_bool (fin_bl I q (by simp))
  | int j=>obtain ⟨t',rfl⟩:=ry; exact PySem.EqNone.ne_none_int (fin_bl I q (by simp))
  | str j=>obtain ⟨t',rfl⟩:=ry; exact PySem.EqNone.ne_none_str (fin_bl I q (by simp))
  | _=>exact absurd (show false=true from hs) Bool.false_ne_true
 | bl i=>
  cases rx
  cases y with
  | non=>cases ry; exact PySem.EqNone.ne_bool_none (fin_bl I q (by simp))
  | bl j=>cases ry; exact ne_bool (fin_bl I q (congrArg not dec_bl))
  | str j=>obtain ⟨t',rfl⟩:=ry; exact PySem.EqMixed.ne_bool_str (fin_bl I q (by simp))
  | _=>exact absurd (show false=true from hs) Bool.false_ne_true
 | int i=>
  obtain ⟨t,rfl⟩:=rx
  cases y with
  | non=>cases ry; exact PySem.EqNone.ne_int_none (fin_bl I q (by simp))
  | int j=>obtain ⟨t',rfl⟩:=ry; exact ne_int (fin_bl I q (congrArg not dec_int))
  | str j=>obtain ⟨t',rfl⟩:=ry; exact PySem.EqMixed.ne_int_str (fin_bl I q (by simp))
  | _=>exact absurd (show false=true from hs) Bool.false_ne_true
 | str i=>
  obtain ⟨t,rfl⟩:=rx
  cases y with
  | non=>cases ry; exact PySem.EqNone.ne_str_none (fin_bl I q (by simp))
  | bl j=>cases ry; exact PySem.EqMixed.ne_str_bool (fin_bl I q (by simp))
  | int j=>obtain ⟨t',rfl⟩:=ry; exact PySem.EqMixed.ne_str_int (fin_bl I q (by simp))
  | str j=>obtain ⟨t',rfl⟩:=ry; exact ne_str (fin_bl I q (congrArg not dec_str))
  | _=>exact absurd (show false=true from hs) Bool.false_ne_true
 | byt i=>
  obtain ⟨t,rfl⟩:=rx
  cases y with
  | byt j=>obtain ⟨t',rfl⟩:=ry; exact PySem.W.ne_bytes (fin_bl I q (congrArg not dec_byt))
  | _=>exact absurd (show false=true from hs) Bool.false_ne_true
 | _=>cases y <;> exact absurd (show false=true from hs) Bool.false_ne_true
theorem op_lt:OpR X (compareOp .Lt) (rI0 fun i j=>.bl (decide (i < j))):=opB0 fun _ _ _ _ _ _ _ q=>lt_int q
theorem op_le:OpR X (compareOp .LtE) (rI0 fun i j=>.bl (decide (i ≤ j))):=opB0 fun _ _ _ _ _ _ _ q=>le_int q
theorem op_gt:OpR X (compareOp .Gt) (rI0 fun i j=>.bl (decide (j < i))):=opB0 fun _ _ _ _ _ _ _ q=>gt_int q
theorem op_ge:OpR X (compareOp .GtE) (rI0 fun i j=>.bl (decide (j ≤ i))):=opB0 fun _ _ _ _ _ _ _ q=>ge_int q
theorem op_in_str:OpR X (compareOp .In) (fun x y H Q=>∃ i j,x=.str i∧y=.str j∧Q (.bl (!(Builtin.Str.occurrences j i 0 j.length 1).isEmpty)) H):=by
 intro pins s σ H x y v u Q I rx ry h
 obtain ⟨i,j,rfl,rfl,q⟩:=h
 obtain ⟨t,rfl⟩:=rx
 obtain ⟨t',rfl⟩:=ry
 exact in_str (fin_bl I q rfl)
theorem op_isN:OpR X (compareOp .Is) (fun x y H Q=>y=.non∧Q (.bl (decide (x=.non))) H):=by
 intro pins s σ H x y v u Q I rx ry h
 obtain ⟨rfl,q⟩:=h
 cases ry
 refine is_none_gen (fin_bl I q ?_)
 cases x <;> first
  | (cases rx; rfl)
  | (obtain ⟨t,rfl⟩:=rx; rfl)
theorem op_notN:OpR X (compareOp .IsNot) (fun x y H Q=>y=.non∧Q (.bl (!decide (x=.non))) H):=by
 intro pins s σ H x y v u Q I rx ry h
 obtain ⟨rfl,q⟩:=h
 cases ry
 refine isnot_none_gen (fin_bl I q ?_)
 cases x <;> first
  | (cases rx; rfl)
  | (obtain ⟨t,rfl⟩:=rx; rfl)
theorem OpR.or {f:Value→Value→Sem Value} {r r':R2} (h:OpR X f r) (h':OpR X f r'):OpR X f (fun x y H Q=>r x y H Q ∨ r' x y H Q):=by
 intro pins s σ H x y v u Q I rx ry q
 rcases q with q | q
 ·exact h pins s σ H x y v u Q I rx ry q
 ·exact h' pins s σ H x y v u Q I rx ry q
theorem nomark (b:Expr) {op:CmpOp} (h:op ≠ .In:=by decide) (h2:op ≠ .NotIn:=by decide):behindInMarks op b=false:=by
 have e1:(op == CmpOp.In)=false:=by cases op <;> first | rfl | exact absurd rfl h
 have e2:(op == CmpOp.NotIn)=false:=by cases op <;> first | rfl | exact absurd rfl h2
 cases b <;> simp [behindInMarks,e1,e2]
theorem pe_cmpR {op:CmpOp} {r:R2} (ho:OpR X (compareOp op) r) (ha:PE X a ta) (hb:PE X b tb) (hm:behindInMarks op b=false):PE X (.Compare a [op] [b] pos) (tOp r ta tb):=by
 intro pins s σ H Q I h
 exact wpAny_Compare1 (binT ha hb I h fun v u s2 x y H2 I2 rx ry q=>ho pins s2 σ H2 x y v u Q I2 rx ry q) hm
def tTest (t:TE):TT:=fun σ H Q=>t σ H fun x H'=>∃ k,x=.bl k∧Q k H'
theorem pt_cmpR {op:CmpOp} {r:R2} (ho:OpR X (compareOp op) r) (ha:PE X a ta) (hb:PE X b tb) (hm:behindInMarks op b=false):PT X (.Compare a [op] [b] pos) (tTest (tOp r ta tb)):=by
 intro pins s σ H Q I h
 refine wpAny_isTrue_Compare1 (thn (ha pins s σ H _ I h) fun v s1 ⟨x,H1,I1,r1,q1⟩=>thn (hb pins s1 σ H1 _ I1 q1) fun u s2 ⟨y,H2,I2,r2,q2⟩=>
  thn (ho pins s2 σ H2 x y v u _ I2 r1 r2 q2) fun c s3 ⟨z,H3,I3,r3,k,e,q3⟩=>?_) hm
 subst e
 cases r3
 exact wpAny_truthy_bool ⟨H3,I3,q3⟩
def tChain (r r':R2) (ta tb tc:TE):TE:=fun σ H Q=>ta σ H fun x H1=>tb σ H1 fun y H2=>r x y H2 fun z H3=>∃ k,z=.bl k∧
 (if k=true then tc σ H3 fun w' H4=>r' y w' H4 Q else Q (.bl false) H3)
theorem pe_chain {op op':CmpOp} {r r':R2} (ho:OpR X (compareOp op) r) (ho':OpR X (compareOp op') r') (ha:PE X a ta) (hb:PE X b tb) (hc:PE X c tc)
  (hm:lastMarks [op,op'] [b,c]=false:=by with_unfolding_all rfl):PE X (.Compare a [op,op'] [b,c] pos) (tChain r r' ta tb tc):=by
 intro pins s σ H Q I h
 refine Compare_chain (thn (ha pins s σ H _ I h) fun v s1 ⟨x,H1,I1,r1,q1⟩=>chain_link (thn (hb pins s1 σ H1 _ I1 q1) fun u s2 ⟨y,H2,I2,r2,q2⟩=>
  thn (ho pins s2 σ H2 x y v u _ I2 r1 r2 q2) fun d s3 ⟨z,H3,I3,r3,k,e,q3⟩=>?_)) hm
 subst e
 cases r3
 refine wpAny_truthy_bool ?_
 cases k with
 | false=>exact ite_ff ⟨.bl false,H3,I3,rfl,q3⟩
 | true=>exact ite_tt (chain_last (thn (hc pins s3 σ H3 _ I3 q3) fun w' s4 ⟨z',H4,I4,r4,q4⟩=>ho' pins s4 σ H4 y z' u w' Q I4 r2 r4 q4))
theorem line63:(sizeLine:Nat) < 2 ^ 63:=by rw [sizeLine_eq]; decide
theorem op_add_str:OpR X (binaryOp .Add) (fun x y H Q=>∃ i j,x=.str i∧y=.str j∧i.length + j.length ≤ sizeLine∧Q (.str (i ++ j)) H):=by
 intro pins s σ H x y v u Q I rx ry h
 obtain ⟨i,j,rfl,rfl,hz,q⟩:=h
 obtain ⟨t,rfl⟩:=rx
 obtain ⟨t',rfl⟩:=ry
 exact add_str (fun t' tk=>⟨.str (i ++ j),H,I.tok _,⟨_,rfl⟩,q⟩) hz
theorem vals1 {x:V} {us:List Value} (r:Vals [x] us):∃ u,us=[u]∧RelV x u:=by
 cases r with
 | cons r1 r2=>cases r2; exact ⟨_,rfl,r1⟩
theorem vals2 {x y:V} {us:List Value} (r:Vals [x,y] us):∃ u w',us=[u,w']∧RelV x u∧RelV y w':=by
 cases r with
 | cons r1 r2=>
  cases r2 with
  | cons r3 r4=>cases r4; exact ⟨_,_,rfl,r1,r3⟩
theorem call_max2 (hc:X.calm=true):CallR X (.builtin "max") (fun xs H Q=>∃ i j,xs=[.int i,.int j]∧Q (.int (if j > i then j else i)) H):=by
 intro pins s σ H xs us Q I r h
 obtain ⟨i,j,rfl,q⟩:=h
 obtain ⟨u,w',rfl,⟨t,rfl⟩,⟨t',rfl⟩⟩:=vals2 r
 refine max_two_ints (I.ok.hd hc) fun h' tk k=>⟨_,H,I.kept k,?_,q⟩
 by_cases hj:j > i
 ·rw [if_pos hj,if_pos hj]; exact ⟨_,rfl⟩
 ·rw [if_neg hj,if_neg hj]; exact ⟨_,rfl⟩
theorem call_min2 (hc:X.calm=true):CallR X (.builtin "min") (fun xs H Q=>∃ i j,xs=[.int i,.int j]∧Q (.int (if j < i then j else i)) H):=by
 intro pins s σ H xs us Q I r h
 obtain ⟨i,j,rfl,q⟩:=h
 obtain ⟨u,w',rfl,⟨t,rfl⟩,⟨t',rfl⟩⟩:=vals2 r
 refine min_two_ints (I.ok.hd hc) fun h' tk k=>⟨_,H,I.kept k,?_,q⟩
 by_cases hj:j < i
 ·rw [if_pos hj,if_pos hj]; exact ⟨_,rfl⟩
 ·rw [if_neg hj,if_neg hj]; exact ⟨_,rfl⟩
end
end L2
namespace L2
open PySem PySem.Spec PyProof.Rows
structure ObjM (h : Heap) (x dx C : Addr) (mA : Str → Option Value) : Prop where
  obj : h.get? x = some (PySem.W.instObj C dx)
  ns : h.Ns1 dx mA
  ne : dx ≠ x
theorem lookIn_ns {h:Heap} {dx:Addr} {mA:Str→Option Value} (n:h.Ns1 dx mA):∃ od,h.get? dx=some od∧∀ name,PySem.W.lookIn name od=some (mA name):=by
 obtain ⟨o,es,ep,ho,hd,hk,_,hm⟩:=n
 refine ⟨o,ho,fun name=>?_⟩
 have e:=hm name
 unfold nsFind findBy at e
 rw [← Array.find?_toList] at e
 unfold PySem.W.lookIn
 rw [hd]
 dsimp only
 split
 ·rename_i y q
  rw [q] at e
  exact congrArg some e
 ·rename_i q
  rw [q] at e
  have a:es.toList.any (·.refKey)=false:=by
   rw [List.any_eq_false]
   intro y hy
   obtain ⟨z,t,hkey⟩:=hk y (Array.mem_toList_iff.mp hy)
   simp [DictEntry.refKey,hkey]
  have a':¬ es.toList.any (·.refKey)=true:=by rw [a]; exact Bool.false_ne_true
  rw [if_neg a']
  exact congrArg some e
theorem ObjM.look {h:Heap} {x dx C:Addr} {mA:Str→Option Value} (I:ObjM h x dx C mA):∃ od,PySem.W.InstAt h x (PySem.W.instObj C dx) C (some od)∧∀ name,PySem.W.lookIn name od=some (mA name):=
 let ⟨od,ho,hl⟩:=lookIn_ns I.ns
 ⟨od,⟨I.obj,rfl,rfl,ho⟩,hl⟩
section
variable {prog : Program} {w : World} {A : Around} {E : Value → Shared → Prop} {s : Shared} {K : PySem.W.Frag} {x dx C f : Addr} {mA : Str → Option Value} {name : Str} {v : Value}
theorem get_map {expr:Bool} {Q:Value→Shared→Prop} (X:K.In s.heap) (I:ObjM s.heap x dx C mA) (hg:PySem.W.plainGet K C name=true) (hh:PySem.W.hasDictIn K C=true)
  (ha:PySem.W.findIn K (.ref C) name=some none) (hv:mA name=some v) (hv':PySem.W.handedIn v=true) (h:Q v { s with toks:=s.toks + 1 }):
  wpAny (model prog w) A (getAttr (.ref x) name expr) Q E s:=by
 obtain ⟨od,J,hl⟩:=I.look
 exact PySem.W.get_value X J (PySem.W.plainGet_of hg).1 (PySem.W.findObj_own hh ha rfl (by rw [hl,hv])) hv' h
theorem get_meth {pl:Sem Bool} {Q:Value × List Value→Shared→Prop} (X:K.In s.heap) (I:ObjM s.heap x dx C mA) (hg:PySem.W.plainGet K C name=true)
  (hf:PySem.W.findIn K (.ref C) name=some (some (.ref f))) (ht:PySem.W.isFn K (.ref f)=true) (hv:mA name=none) (h:Q (.ref f,[.ref x]) s):
  wpAny (model prog w) A (getMethod (.ref x) name pl) Q E s:=by
 obtain ⟨od,J,hl⟩:=I.look
 exact PySem.W.method_fn X J (PySem.W.plainGet_of hg).1 (PySem.W.plainGet_of hg).2 hf (beq_iff_eq.mp ht) (by show (PySem.W.lookIn name od).map (·.isSome)=some false; rw [hl,hv]; rfl) h
theorem set_map {ns:List Str} {Q:Unit→Shared→Prop} (X:K.In s.heap) (I:ObjM s.heap x dx C mA)
  (hs:PySem.W.findIn K (.ref C) "__setattr__"=some (some (.builtin "object.__setattr__"))) (hp:PySem.W.plainOver K C=true) (ht:PySem.W.takerIn K C name=some none) (hh:PySem.W.hasDictIn K C=true)
  (hw:PySem.Within mA ns) (hsz:ns.length ≤ sizeLine)
  (h:∀ h',ObjM h' x dx C (fun y=>if y=name then some v else mA y)→Heap.SameBut dx s.heap h'→Q () { s with heap:=h',toks:=s.toks + 2 }):
  wpAny (model prog w) A (setAttr (.ref x) name v) Q E s:=by
 obtain ⟨od,J,hl⟩:=I.look
 refine PySem.W.set_plain X J hs (PySem.W.osa_open (s:={ s with toks:=s.toks + 1 }) (r:=none) X J hp ht fun b=>?_)
 obtain ⟨cd,hc,hd'⟩:=PySem.W.any_some hh
 have hx:s.heap.get? x=some ⟨.ref C,some dx,.plain,#[]⟩:=I.obj
 refine wpAny_bind (wpAny_pure (wpAny_bind (wpAny_bind (wpAny_loadPart hx (wpAny_bind (PySem.W.Looks.here (s:={ s with toks:=s.toks + 1 }) (PySem.W.looks_clsIn X hc) ?_))))))
 rw [hd']
 refine wpAny_pure (a:=some dx) (wpAny_bind (wpAny_pure (wpAny_bind ?_)))
 refine wpAny_nsSet1 (s:={ s with toks:=s.toks + 1 }) I.ns fun h' hn2 hs2=>?_
 obtain ⟨oD,esD,epD,hoD,hdD,hcD⟩:=hn2.count (PySem.Within.cons name v hw)
 refine wpAny_bind (wpAny_lookBehind hoD (by rw [hdD]; exact pastItsLine_dict (Nat.le_trans hcD (by rw [List.length_cons]; omega))) ?_)
 exact wpAny_pure (h _ ⟨(hs2.2 _ (Ne.symm I.ne)).trans I.obj,hn2,I.ne⟩ hs2)
theorem make_map {R:Result→Shared→Prop} {vs:List Value} {kw:List (Str × Value)} (X:K.In s.heap) (hm:PySem.W.makesIn K C=true)
  (hi:PySem.W.findIn K (.ref C) "__init__"=some (some (.ref f))) (hf:PySem.W.typeIn K (.ref f)=some (.type "function"))
  (h:codeAny (model prog w) (A.under (.builtin "type.__call__" ⟨.ref C :: vs,kw⟩)) (.call (.ref f) ⟨.ref (s.heap.objs.size + 1) :: vs,kw⟩) (PySem.W.InitBack (s.heap.objs.size + 1) R)
   { s with heap:=(s.heap.push PySem.W.emptyDict).push (PySem.W.instObj C s.heap.objs.size) }):
  codeAny (model prog w) A (.call (.ref C) ⟨vs,kw⟩) R s:=by
 obtain ⟨hh,g,d,t,os⟩:=s
 exact PySem.W.make_core (PySem.W.makes_of X hm) (PySem.W.looks_findIn X hi) (fun self=>PySem.W.bind_fn X self hf) (.inl rfl) h
end
def putF (f:Str) (v:V):List (Str × V)→List (Str × V)
 | []=>[(f,v)]
 | (g,x) :: r=>if g=f then (g,v) :: r else (g,x) :: putF f v r
theorem lookup_putF (f g:Str) (v:V):∀ fs:List (Str × V),(putF f v fs).lookup g=if g=f then some v else fs.lookup g
 | []=>by
  show List.lookup g [(f,v)]=_
  by_cases h:g=f
  ·have hb:(g == f)=true:=beq_iff_eq.mpr h
   simp only [List.lookup,hb,if_pos h]
  ·have hb:(g == f)=false:=beq_eq_false_iff_ne.mpr h
   simp only [List.lookup,hb,if_neg h]
 | (k,x) :: r=>by
  have ih:=lookup_putF f g v r
  rw [show putF f v ((k,x) :: r)=(if k=f then (k,v) :: r else (k,x) :: putF f v r) from rfl]
  by_cases hk:k=f
  ·rw [if_pos hk]
   by_cases h:g=k
   ·have hb:(g == k)=true:=beq_iff_eq.mpr h
    simp only [List.lookup,hb,if_pos (h.trans hk)]
   ·have hb:(g == k)=false:=beq_eq_false_iff_ne.mpr h
    simp only [List.lookup,hb,if_neg (fun e:g=f=>h (e.trans hk.symm))]
  ·rw [if_neg hk]
   by_cases h:g=k
   ·have hb:(g == k)=true:=beq_iff_eq.mpr h
    simp only [List.lookup,hb,if_neg (fun e:g=f=>hk (h.symm.trans e))]
   ·have hb:(g == k)=false:=beq_eq_false_iff_ne.mpr h
    simp only [List.lookup,hb]
    exact ih
theorem keys_putF (f:Str) (v:V):∀ fs:List (Str × V),f ∈ (putF f v fs).map (·.1)∧∀ g,g ∈ fs.map (·.1)→g ∈ (putF f v fs).map (·.1)
 | []=>⟨by simp [putF],fun g h=>by simp at h⟩
 | (k,x) :: r=>by
  obtain ⟨i1,i2⟩:=keys_putF f v r
  rw [show putF f v ((k,x) :: r)=(if k=f then (k,v) :: r else (k,x) :: putF f v r) from rfl]
  by_cases hk:k=f
  ·rw [if_pos hk]
   subst hk
   exact ⟨by simp,fun g h=>by simpa using h⟩
  ·rw [if_neg hk]
   refine ⟨?_,fun g h=>?_⟩
   ·rw [List.map_cons]
    exact List.mem_cons_of_mem _ i1
   ·rw [List.map_cons] at h ⊢
    rcases List.mem_cons.mp h with e | e
    ·exact List.mem_cons.mpr (.inl e)
    ·exact List.mem_cons_of_mem _ (i2 g e)
theorem length_putF (f:Str) (v:V):∀ fs:List (Str × V),(putF f v fs).length ≤ fs.length + 1
 | []=>by simp [putF]
 | (k,x) :: r=>by
  have ih:=length_putF f v r
  rw [show putF f v ((k,x) :: r)=(if k=f then (k,v) :: r else (k,x) :: putF f v r) from rfl]
  by_cases hk:k=f
  ·rw [if_pos hk,List.length_cons,List.length_cons]; omega
  ·rw [if_neg hk,List.length_cons,List.length_cons]; omega
theorem RelO.some_of {v:V} {o:Option Value} (r:RelO (some v) o):∃ u,o=some u∧RelV v u:=by
 cases o with
 | none=>exact (show False from r).elim
 | some u=>exact ⟨u,rfl,r⟩
theorem RelO.none_of {o:Option Value} (r:RelO none o):o=none:=by
 cases o with
 | none=>rfl
 | some u=>exact (show False from r).elim
theorem handed_of {v:V} {u:Value} (r:RelV v u):PySem.W.handedIn u=true:=by
 cases v with
 | non=>cases (show u=Value.none from r); rfl
 | bl b=>cases (show u=Value.bool b from r); rfl
 | int i=>obtain ⟨t,e⟩:=(show ∃ t,u=Value.int i t from r); cases e; rfl
 | str x=>obtain ⟨t,e⟩:=(show ∃ t,u=Value.str x t from r); cases e; rfl
 | byt b=>obtain ⟨t,e⟩:=(show ∃ t,u=Value.bytes b t from r); cases e; rfl
 | flt b=>obtain ⟨t,e⟩:=(show ∃ t,u=Value.float b t from r); cases e; rfl
 | ref a=>cases (show u=Value.ref a from r); rfl
 | ty n=>cases (show u=Value.type n from r); rfl
section
variable {P : Program} {w : World} {H H' : Hp} {h h' : Heap} {a C dx : Addr} {fs fs' : List (Str × V)}
theorem ins_get (hok:HOk P w H h) (e:H a=some (.ins C dx fs)):∃ mA,ObjM h a dx C mA∧(∀ f,RelO (fs.lookup f) (mA f))∧PySem.Within mA (fs.map (·.1))∧fs.length ≤ 1000∧H dx=some (.own a):=by
 obtain ⟨d,z,ne,ob,mA,n,r,q⟩:=(show ObjOk P w H h a (.ins C dx fs) from hok a _ e)
 exact ⟨mA,⟨ob,n,ne⟩,r,q,z,d⟩
end
structure Cls (K : PySem.W.Frag) (C : Addr) : Prop where
  pg : PySem.W.plainGet K C Str.empty = true
  hd : PySem.W.hasDictIn K C = true
  po : PySem.W.plainOver K C = true
  sa : PySem.W.findIn K (.ref C) "__setattr__" = some (some (.builtin "object.__setattr__"))
theorem Cls.get {K:PySem.W.Frag} {C:Addr} (c:Cls K C) (f:Str):PySem.W.plainGet K C f=true:=c.pg
def NoAttr (K:PySem.W.Frag) (C:Addr) (f:Str):Prop:=PySem.W.findIn K (.ref C) f=some none
theorem NoAttr.taker {K:PySem.W.Frag} {C:Addr} {f:Str} (n:NoAttr K C f):PySem.W.takerIn K C f=some none:=by
 unfold PySem.W.takerIn
 rw [show PySem.W.findIn K (.ref C) f=some none from n]
 rfl
structure Meth (K : PySem.W.Frag) (C : Addr) (m : Str) (f : Addr) : Prop where
  at_ : PySem.W.findIn K (.ref C) m = some (some (.ref f))
  fn : PySem.W.isFn K (.ref f) = true
  kp : PySem.W.keepIn K (.ref f) = true
section
variable {X : Cx} {pins : List (Addr × Obj)} {σ : St} {H : Hp} {s : Shared} {a C dx : Addr} {fs : List (Str × V)} {f : Str} {v : V} {A : Around} {E : Value → Shared → Prop}
theorem getattr_ok {b:Bool} {Q:Value→Shared→Prop} (I:Inv X pins σ H s) (e:H a=some (.ins C dx fs)) (c:Cls X.K C) (n:NoAttr X.K C f) (l:fs.lookup f=some v)
  (h:∀ u s',Inv X pins σ H s'→RelV v u→Q u s'):wpAny (model X.prog X.w) A (getAttr (.ref a) f b) Q E s:=by
 obtain ⟨mA,O,r,_,_,_⟩:=ins_get I.hok e
 obtain ⟨u,hu,ru⟩:=RelO.some_of (v:=v) (o:=mA f) (by rw [← l]; exact r f)
 exact get_map I.kIn O (c.get f) c.hd n hu (handed_of ru) (h u _ (I.tok _) ru)
theorem getmeth_ok {m:Str} {g:Addr} {pl:Sem Bool} {Q:Value × List Value→Shared→Prop} (I:Inv X pins σ H s) (e:H a=some (.ins C dx fs)) (c:Cls X.K C) (k:Meth X.K C m g) (l:fs.lookup m=none)
  (h:Q (.ref g,[.ref a]) s):wpAny (model X.prog X.w) A (getMethod (.ref a) m pl) Q E s:=by
 obtain ⟨mA,O,r,_,_,_⟩:=ins_get I.hok e
 have hn:mA m=none:=RelO.none_of (by rw [← l]; exact r m)
 exact get_meth I.kIn O (c.get m) k.at_ k.fn hn h
theorem setattr_ok {y:V} {u:Value} {Q:Unit→Shared→Prop} (I:Inv X pins σ H s) (e:H a=some (.ins C dx fs)) (c:Cls X.K C) (n:NoAttr X.K C f) (hl:fs.length < 1000) (ry:RelV y u)
  (h:∀ s',Inv X pins σ (upd H a (.ins C dx (putF f y fs))) s'→Q () s'):wpAny (model X.prog X.w) A (setAttr (.ref a) f u) Q E s:=by
 obtain ⟨mA,O,r,wi,_,ho⟩:=ins_get I.hok e
 have hz:(fs.map (·.1)).length ≤ sizeLine:=by rw [List.length_map,sizeLine_eq]; omega
 refine set_map I.kIn O c.sa c.po n.taker c.hd wi hz fun h' O' sb=>h _ ?_
 have hd:∃ o,h'.get? dx=some o:=let ⟨o,_,_,e',_⟩:=O'.ns; ⟨o,e'⟩
 refine I.write (x:=a) (e:=dx) (by rw [e]; exact True.intro) (.inr ho) (fun b q hb z=>(sb.2 b hb).trans z) hd ?_
 refine ⟨by rw [upd_ne O.ne]; exact ho,?_,O.ne,O'.obj,_,O'.ns,fun g=>?_,fun g hg=>?_⟩
 ·have:=length_putF f y fs; omega
 ·show RelO ((putF f y fs).lookup g) (if g=f then some u else mA g)
  rw [lookup_putF]
  by_cases q:g=f
  ·rw [if_pos q,if_pos q]; exact ry
  ·rw [if_neg q,if_neg q]; exact r g
 ·by_cases q:g=f
  ·rw [q]; exact (keys_putF f y fs).1
  ·refine (keys_putF f y fs).2 g (wi g fun z=>hg ?_)
   show (if g=f then some u else mA g)=none
   rw [if_neg q]; exact z
theorem Inv.made (I:Inv X pins σ H s):Inv X pins σ (upd (upd H s.heap.objs.size (.own (s.heap.objs.size + 1))) (s.heap.objs.size + 1) (.ins C s.heap.objs.size []))
  { s with heap:=(s.heap.push PySem.W.emptyDict).push (PySem.W.instObj C s.heap.objs.size) }:=by
 have e1:(s.heap.push PySem.W.emptyDict).get? s.heap.objs.size=some PySem.W.emptyDict:=Heap.get?_push_size s.heap rfl
 have e2:((s.heap.push PySem.W.emptyDict).push (PySem.W.instObj C s.heap.objs.size)).get? (s.heap.objs.size + 1)=some (PySem.W.instObj C s.heap.objs.size):=by
  have:=Heap.get?_push_size (s.heap.push PySem.W.emptyDict) (o:=PySem.W.instObj C s.heap.objs.size) rfl
  rwa [Heap.size_push] at this
 have e3:(s.heap.push PySem.W.emptyDict).Ns s.heap.objs.size (fun _=>none):=⟨PySem.W.emptyDict,#[],_,e1,rfl,(fun e he=>absurd he (by simp)),fun _=>rfl⟩
 have I1:=I.laid (a:=s.heap.objs.size) (o:=.own (s.heap.objs.size + 1)) (h':=s.heap.push PySem.W.emptyDict) (t':=s.toks) (fun b u q=>Heap.get?_push_of_some _ q) (Nat.le_refl _) ⟨_,e1⟩
 refine I1.laid (a:=s.heap.objs.size + 1) (o:=.ins C s.heap.objs.size []) (t':=s.toks) (fun b u q=>Heap.get?_push_of_some _ q) (Nat.le_of_eq (Heap.size_push _ _)) ?_
 have ne:s.heap.objs.size ≠ s.heap.objs.size + 1:=Nat.ne_of_lt (Nat.lt_succ_self _)
 refine ⟨by rw [upd_ne ne,upd_same],Nat.zero_le _,ne,e2,fun _=>none,(Heap.Ns1.of_empty e3).at fun o q=>Heap.get?_push_of_some _ q,fun _=>True.intro,fun y hy=>absurd rfl hy⟩
theorem attr_of {prog:Program} {w:World} {env:Env} {e:Expr} {f:Str} {pos:Pos} {s:Shared} {Q:Value→Shared→Prop} (hb:attributeBase e f env (eval e env)=eval e env)
  (h:wpAny (model prog w) A (eval e env) (fun o s₁=>wpAny (model prog w) A (getAttr o f true) Q E s₁) E s):wpAny (model prog w) A (eval (.Attribute e f pos) env) Q E s:=
 Attribute_any_ h (by rw [arm_eval_Attribute,hb])
end
def tFld (K:PySem.W.Frag) (ta:TE) (f:Str):TE:=fun σ H Q=>ta σ H fun x H1=>∃ a C dx fs v,x=.ref a∧H1 a=some (.ins C dx fs)∧Cls K C∧NoAttr K C f∧fs.lookup f=some v∧Q v H1
def sFld (K:PySem.W.Frag) (ta tv:TE) (f:Str):TS:=fun D σ H=>tv σ H fun y H1=>ta σ H1 fun x H2=>∃ a C dx fs,x=.ref a∧H2 a=some (.ins C dx fs)∧Cls K C∧NoAttr K C f∧fs.length < 1000∧
 D.nx σ (upd H2 a (.ins C dx (putF f y fs)))
section
variable {X : Cx} {o e value : Expr} {f : Str} {pos pos' tpos : Pos} {ta tv : TE}
theorem pe_fld (he:PE X e ta) (hb:attributeBase e f X.env (eval e X.env)=eval e X.env):PE X (.Attribute e f pos) (tFld X.K ta f):=by
 intro pins s σ H Q I h
 refine attr_of hb (thn (he pins s σ H _ I h) fun u s1 ⟨x,H1,I1,rx,a,C,dx,fs,v,ex,ea,c,n,l,q⟩=>?_)
 subst ex
 obtain rfl:u=Value.ref a:=rx
 exact getattr_ok I1 ea c n l fun u' s2 I2 ru=>⟨v,H1,I2,ru,q⟩
theorem ps_fld (ha:PE X o ta) (hv:PE X value tv) (hs:swapsWith value (some (.Attribute o f pos')) pos.line X.env=pure false):PS X (.Assign [.Attribute o f pos'] value pos) (sFld X.K ta tv f):=by
 intro pins s σ H D I h
 refine plainObj_wpAny_Assign_Attribute (thn (hv pins s σ H _ I h) fun u s1 ⟨y,H1,I1,ry,q⟩=>thn (ha pins s1 σ H1 _ I1 q) fun ov s2 ⟨x,H2,I2,rx,a,C,dx,fs,ex,ea,c,n,l,q2⟩=>?_) hs
 subst ex
 obtain rfl:ov=Value.ref a:=rx
 exact setattr_ok I2 ea c n l ry fun s3 I3=>⟨σ,_,I3,q2⟩
end
section
variable {X : Cx} {pins : List (Addr × Obj)} {σ : St} {H : Hp} {s : Shared} {A : Around} {E : Value → Shared → Prop} {Q : Value → Shared → Prop} {c : Value} {b : Bool}
inductive TyOf (K : PySem.W.Frag) (H : Hp) : V → Value → Prop where
  | non : TyOf K H .non (.type "NoneType")
  | bl (x : Bool) : TyOf K H (.bl x) (.type "bool")
  | int (i : Int) : TyOf K H (.int i) (.type "int")
  | str (x : Str) : TyOf K H (.str x) (.type "str")
  | flt (x : UInt64) : TyOf K H (.flt x) (.type "float")
  | lst {a : Addr} {xs : List V} (e : H a = some (.lst xs)) : TyOf K H (.ref a) (.type "list")
  | frz {a : Addr} {o : Obj} {xs : List V} (e : H a = some (.frz o (.lst xs))) : TyOf K H (.ref a) (.type "list")
  | tup {a : Addr} {xs : List V} (e : H a = some (.tup xs)) : TyOf K H (.ref a) (.type "tuple")
  | dK {a : Addr} {kvs : List (Key × V)} (e : H a = some (.dK kvs)) : TyOf K H (.ref a) (.type "dict")
  | dT {a : Addr} {kvs : List (List Key × V)} (e : H a = some (.dT kvs)) : TyOf K H (.ref a) (.type "dict")
  | ins {a C dx : Addr} {fs : List (Str × V)} (e : H a = some (.ins C dx fs)) (cl : Cls K C) (ha : PySem.W.findIn K (.ref C) "__class__" = some (some (.builtin "object.__class__")))
      (hn : PySem.W.specialIn K (.builtin "object.__class__") "__get__" = some (some (.builtin "getset_descriptor.__get__"))) (htk : PySem.W.takesIn K (.builtin "object.__class__") = some true)
      (hm : PySem.W.mroIn K C (.type "object") = some true) : TyOf K H (.ref a) (.ref C)
theorem isinst_ok {x:V} {u t:Value} (I:Inv X pins σ H s) (rx:RelV x u) (ty:TyOf X.K H x t) (e:PySem.W.kitOne X.K t c=some b) (h:∀ tk,Q (.bool b) { s with toks:=tk }):
  wpAny (model X.prog X.w) A (call (.builtin "isinstance") [u,c]) Q E s:=by
 cases ty with
 | non=>cases (show u=Value.none from rx); exact PySem.W.kia_one PySem.W.kitx_none I.kIn True.intro e (fun z=>nomatch z) h
 | bl y=>cases (show u=Value.bool y from rx); exact PySem.W.kia_one PySem.W.kitx_bool I.kIn True.intro e (fun z=>nomatch z) h
 | int i=>obtain ⟨t,q⟩:=(show ∃ t,u=Value.int i t from rx); cases q; exact PySem.W.kia_one PySem.W.kitx_int I.kIn True.intro e (fun z=>nomatch z) h
 | str y=>obtain ⟨t,q⟩:=(show ∃ t,u=Value.str y t from rx); cases q; exact PySem.W.kia_one PySem.W.kitx_str I.kIn True.intro e (fun z=>nomatch z) h
 | flt y=>obtain ⟨t,q⟩:=(show ∃ t,u=Value.float y t from rx); cases q; exact PySem.W.kia_one PySem.W.kitx_float I.kIn True.intro e (fun z=>nomatch z) h
 | @lst a xs ea=>
  cases (show u=Value.ref a from rx)
  obtain ⟨_,_,n,_,h1⟩:=(show ObjOk X.prog X.w H s.heap a (.lst xs) from I.hok a _ ea)
  exact PySem.W.kia_one PySem.W.kitx_list I.kIn ⟨_,h1,rfl⟩ e (fun z=>nomatch z) h
 | @frz a ob xs ea=>
  cases (show u=Value.ref a from rx)
  obtain ⟨_,_,_,n,_,h1⟩:=(show ObjOk X.prog X.w H s.heap a (.frz ob (.lst xs)) from I.hok a _ ea)
  exact PySem.W.kia_one PySem.W.kitx_list I.kIn ⟨_,h1,rfl⟩ e (fun z=>nomatch z) h
 | @tup a xs ea=>
  cases (show u=Value.ref a from rx)
  obtain ⟨_,_,_,p⟩:=(show ObjOk X.prog X.w H s.heap a (.tup xs) from I.hok a _ ea)
  obtain ⟨o,h1,h2,_⟩:=p
  exact PySem.W.kia_one PySem.W.kitx_tuple I.kIn ⟨o,h1,h2⟩ e (fun z=>nomatch z) h
 | @dK a kvs ea=>
  cases (show u=Value.ref a from rx)
  obtain ⟨_,_,vs,_,p⟩:=(show ObjOk X.prog X.w H s.heap a (.dK kvs) from I.hok a _ ea)
  obtain ⟨o,es,ep,h1,h2,_⟩:=p
  exact PySem.W.kia_one PySem.W.kitx_dict I.kIn ⟨o,h1,h2.1⟩ e (fun z=>nomatch z) h
 | @dT a kvs ea=>
  cases (show u=Value.ref a from rx)
  obtain ⟨_,_,xs,_,o,es,ep,h1,h2,_⟩:=(show ObjOk X.prog X.w H s.heap a (.dT kvs) from I.hok a _ ea)
  exact PySem.W.kia_one PySem.W.kitx_dict I.kIn ⟨o,h1,h2.1⟩ e (fun z=>nomatch z) h
 | @ins a C dx fs ea cl ha hn htk hm=>
  cases (show u=Value.ref a from rx)
  obtain ⟨mA,O,_⟩:=ins_get I.hok ea
  obtain ⟨od,J,_⟩:=O.look
  exact PySem.W.kia_one (PySem.W.kitx_own (cl.get _) cl.hd ha hn htk hm) I.kIn J e (fun z=>nomatch z) h
end
end L2
namespace L2
open PySem PySem.Spec PyProof.Rows
structure Room (k : Nat) (A : Around) : Prop where
  hd : A.handled = none
  dp : A.depth + 3 * k + 5 < recursionLimit
  un : A.units + 16 * k + 200 < cLine
theorem Room.mono {j k:Nat} {A:Around} (r:Room k A) (h:j ≤ k):Room j A:=⟨r.hd,by have:=r.dp; omega,by have:=r.un; omega⟩
theorem Room.deeper {k:Nat} {A:Around} (r:Room (k + 1) A) (env:Env):Room k (A.deeper env):=
 ⟨r.hd,by have:=r.dp; show A.depth + 1 + 3 * k + 5 < _; omega,by have:=r.un; show A.units + 3 + 16 * k + 200 < _; omega⟩
theorem Room.in1 {k:Nat} {A:Around} (r:Room (k + 1) A):Room k A.in1:=
 ⟨r.hd,by have:=r.dp; show A.depth + 3 * k + 5 < _; omega,by have:=r.un; show A.units + 1 + 16 * k + 200 < _; omega⟩
theorem make_depth {A:Around} {C:Addr} {us:List Value} {kw:List (Str × Value)}:(A.under (.builtin "type.__call__" ⟨.ref C :: us,kw⟩)).depth=A.depth + 1:=by
 first | rfl | simp [Around.under,Code.weight,Code.isCreation,Code.isGuard,Code.isCaller,Code.frames,Code.isFrame,guardIds]
theorem make_units {A:Around} {C:Addr} {us:List Value} {kw:List (Str × Value)}:(A.under (.builtin "type.__call__" ⟨.ref C :: us,kw⟩)).units=A.units + 1:=by
 first | rfl | simp [Around.under,Code.cUnits,Code.frames,Code.isFrame]
theorem Room.make {k:Nat} {A:Around} (r:Room (k + 1) A) (C:Addr) (us:List Value) (kw:List (Str × Value)):Room k (A.under (.builtin "type.__call__" ⟨.ref C :: us,kw⟩)):=
 ⟨r.hd,by have:=r.dp; rw [make_depth]; omega,by have:=r.un; rw [make_units]; omega⟩
theorem Room.depth {k:Nat} {A:Around} (r:Room k A):A.depth < recursionLimit:=by have:=r.dp; omega
theorem Room.units {k:Nat} {A:Around} (r:Room k A):A.units + 64 < cLine:=by have:=r.un; omega
def tNil:TA:=fun _ H Q=>Q [] H
def tCons (ta:TE) (tr:TA):TA:=fun σ H Q=>ta σ H fun x H1=>tr σ H1 fun xs H2=>Q (x :: xs) H2
section
variable {X : Cx} {e : Expr} {es : List Expr} {te : TE} {t : TA} {pos : Pos}
theorem pa_nil:PA X [] tNil:=fun _ _ _ _ H Q I h=>Calls.spliced_nil ⟨[],H,I,.nil,h⟩
theorem pa_cons (ha:PE X e te) (hr:PA X es t) (hs:starEach (e :: es) X.env=(false,eval e X.env) :: starEach es X.env:=by rfl):PA X (e :: es) (tCons te t):=by
 intro pos pins s σ H Q I h
 rw [hs]
 show wpAny _ _ (spliced ((false,eval e X.env) :: backTo pos (starEach es X.env))) _ _ s
 refine Calls.spliced_cons (thn (ha pins s σ H _ I h) fun u s1 ⟨x,H1,I1,r1,q1⟩=>?_)
 exact thn (hr pos pins s1 σ H1 _ I1 q1) fun us s2 ⟨xs,H2,I2,r2,q2⟩=>⟨x :: xs,H2,I2,.cons r1 r2,q2⟩
def tLst (t:TA):TE:=fun σ H Q=>t σ H fun xs H1=>xs.length ≤ sizeLine∧∀ p,H1 p=none→Q (.ref p) (upd H1 p (.lst xs))
theorem pe_lst (h:PA X es t):PE X (.List es pos) (tLst t):=by
 intro pins s σ H Q I hq
 refine wpAny_List_spliced (thn (h pos pins s σ H _ I hq) fun us s1 ⟨xs,H1,I1,r,z,q⟩=>⟨by rw [← r.length]; exact z,?_⟩)
 have hf:H1 s1.heap.objs.size=none:=I1.hok.fresh (Nat.le_refl _)
 refine ⟨.ref s1.heap.objs.size,upd H1 s1.heap.objs.size (.lst xs),I1.laid (t':=s1.toks) (fun b u e=>Heap.get?_push_of_some _ e) (Nat.le_refl _) ?_,rfl,q _ hf⟩
 exact ⟨z,us,0,r,Heap.get?_push_size _ rfl⟩
end
abbrev Sp:=List V→Hp→VK→XK→Prop
abbrev CXT:=List Env→Hp→Shared→XK→Value→Shared→Prop
structure Env0 (P : Program) (w : World) (K : PySem.W.Frag) (mg : Str → Option Value) (base : Heap) (A : Around) (outer : List Env) (s : Shared) (H : Hp) : Prop where
  frames : A.frames = some outer
  mod : Mod K mg base
  bs : ∀ b o, base.get? b = some o → s.heap.get? b = some o ∧ H b = none
  bsz : base.objs.size ≤ s.heap.objs.size
  funs : s.heap.FunFrames base outer
  frf : ∀ b ∈ frs outer, H b = none
  hok : HOk P w H s.heap
  bare : AllBare s.gens
def CE (outer:List Env) (P:Program) (w:World) (H:Hp) (s:Shared) (Q:VK) (u:Value) (s':Shared):Prop:=
 ∃ v H',s'.os=s.os∧AllBare s'.gens∧Un (frs outer) [] H H' s.heap s'.heap∧HOk P w H' s'.heap∧RelV v u∧Q v H'
def CR (CX:CXT) (outer:List Env) (P:Program) (w:World) (H:Hp) (s:Shared) (Q:VK) (E:XK) (r:Result) (s':Shared):Prop:=
 match r with
 | .ok (.ret u)=>CE outer P w H s Q u s'
 | .ok _=>False
 | .error e=>CX outer H s E e s'
structure FnOk (P : Program) (w : World) (K : PySem.W.Frag) (mg : Str → Option Value) (base : Heap) (CX : CXT) (k : Nat) (f : Addr) (fd : FuncData) (ps : List Str) (sp : Sp) : Prop where
  len : ∀ vs H Q E, sp vs H Q E → vs.length = ps.length
  run : ∀ (A : Around) (outer : List Env) (s : Shared) (H : Hp) (args : Args) (us : List Value) (vs : List V) (Q : VK) (E : XK), Room k A → Env0 P w K mg base A outer s H → BindsTo s fd args (ps.zip us) → Vals vs us → sp vs H Q E →
    codeAny (model P w) A (.call (.ref f) args) (CR CX outer P w H s Q E) s
theorem FnOk.mono {P:Program} {w:World} {K:PySem.W.Frag} {mg:Str→Option Value} {base:Heap} {CX:CXT} {j k:Nat} {f:Addr} {fd:FuncData} {ps:List Str} {sp:Sp} (F:FnOk P w K mg base CX j f fd ps sp) (h:j ≤ k):
  FnOk P w K mg base CX k f fd ps sp:=⟨F.len,fun A outer s H args us vs Q E hr=>F.run A outer s H args us vs Q E (hr.mono h)⟩
theorem FnOk.imp {P:Program} {w:World} {K:PySem.W.Frag} {mg:Str→Option Value} {base:Heap} {CX:CXT} {k:Nat} {f:Addr} {fd:FuncData} {ps:List Str} {sp sp':Sp} (F:FnOk P w K mg base CX k f fd ps sp)
  (h:∀ vs H Q E,sp' vs H Q E→sp vs H Q E):FnOk P w K mg base CX k f fd ps sp':=
 ⟨fun vs H Q E q=>F.len vs H Q E (h _ _ _ _ q),fun A outer s H args us vs Q E hr he hb hv hs=>F.run A outer s H args us vs Q E hr he hb hv (h _ _ _ _ hs)⟩
theorem Env0.make {P:Program} {w:World} {K:PySem.W.Frag} {mg:Str→Option Value} {base:Heap} {A:Around} {outer:List Env} {s:Shared} {H:Hp} (e:Env0 P w K mg base A outer s H) (C:Addr) (us:List Value) (kw:List (Str × Value)):
  Env0 P w K mg base (A.under (.builtin "type.__call__" ⟨.ref C :: us,kw⟩)) outer s H:=⟨by first | exact e.frames | (simpa [Around.under,Code.envs,Code.isFrame,pushEnvs] using e.frames),e.mod,e.bs,e.bsz,e.funs,e.frf,e.hok,e.bare⟩
theorem Env0.in1 {P:Program} {w:World} {K:PySem.W.Frag} {mg:Str→Option Value} {base:Heap} {A:Around} {outer:List Env} {s:Shared} {H:Hp} (e:Env0 P w K mg base A outer s H):
  Env0 P w K mg base A.in1 outer s H:=⟨e.frames,e.mod,e.bs,e.bsz,e.funs,e.frf,e.hok,e.bare⟩
section
variable {X : Cx} {pins : List (Addr × Obj)} {σ : St} {H : Hp} {s s' : Shared}
theorem Inv.env0 (I:Inv X pins σ H s):Env0 X.prog X.w X.K X.mg X.base X.A X.stack s H:=
 ⟨I.ok.frames,I.ok.mod,I.bs,Nat.le_trans I.ok.bsz I.sz,I.stack,I.stkFree,I.hok,I.bare⟩
theorem Inv.after {Q:VK} {u:Value} (I:Inv X pins σ H s) (h:CE X.stack X.prog X.w H s Q u s'):EP X pins σ Q u s':=by
 obtain ⟨v,H',os,bare,un,hok,r,q⟩:=h
 obtain ⟨hh,g,d,t,os'⟩:=s'
 obtain rfl:os'=s.os:=os
 exact ⟨v,H',I.call (h':=hh) (g':=g) (d':=d) (t':=t) (ch:=[]) un hok bare (fun b z=>absurd z (by simp)),r,q⟩
end
def tCall (sp:Sp) (dvs:List V) (E:XK) (t:TA):TE:=fun σ H Q=>t σ H fun vs H1=>sp (vs ++ dvs) H1 Q E
def tMeth (C:Addr) (m:Str) (sp:Sp) (dvs:List V) (E:XK) (ta:TE) (t:TA):TE:=fun σ H Q=>ta σ H fun x H1=>∃ a dx fs,x=.ref a∧H1 a=some (.ins C dx fs)∧fs.lookup m=none∧
 t σ H1 fun vs H2=>sp (x :: (vs ++ dvs)) H2 Q E
def tMake (C:Addr) (sp:Sp) (dvs:List V) (E:XK) (t:TA):TE:=fun σ H Q=>t σ H fun vs H1=>∀ x dx,H1 x=none→H1 dx=none→dx ≠ x→
 sp (.ref x :: (vs ++ dvs)) (upd (upd H1 dx (.own x)) x (.ins C dx [])) (fun v H2=>v=.non∧Q (.ref x) H2) E
def Binds (K:PySem.W.Frag) (fd:FuncData) (ps:List Str) (ds:List Value):Prop:=
 ∀ (s:Shared) (us:List Value),K.In s.heap→(us ++ ds).length=ps.length→BindsTo s fd ⟨us,[]⟩ (ps.zip (us ++ ds))
theorem Binds.all {K:PySem.W.Frag} {fd:FuncData} {ps:List Str} (h:∀ us:List Value,us.length=ps.length→bindArgs fd ⟨us,[]⟩=pure (ps.zip us)):Binds K fd ps []:=fun s us _ hl=>by
 rw [List.append_nil] at hl ⊢
 exact .of_eq (h us hl)
def Passes (CX:CXT) (X:Cx) (E:XK):Prop:=∀ (pins:List (Addr × Obj)) (σ:St) (H:Hp) (s:Shared) (e:Value) (s':Shared),Inv X pins σ H s→CX X.stack H s E e s'→X.xe e s'
section
variable {X : Cx} {CX : CXT} {k : Nat} {f C : Addr} {fd : FuncData} {ps : List Str} {sp : Sp} {dvs : List V} {ds : List Value} {E : XK} {x m : Str} {p pos apos : Pos} {e o : Expr} {es : List Expr} {ta : TE} {t : TA}
theorem run_fn {pins:List (Addr × Obj)} {σ:St} {H:Hp} {s:Shared} {Q:VK} {us:List Value} {vs:List V} (F:FnOk X.prog X.w X.K X.mg X.base CX k f fd ps sp) (hr:Room k X.A) (hb:Binds X.K fd ps ds) (hd:Vals dvs ds) (hx:Passes CX X E)
  (I:Inv X pins σ H s) (r:Vals vs us) (h:sp (vs ++ dvs) H Q E):wpAny (model X.prog X.w) X.A (call (.ref f) us) (EP X pins σ Q) X.xe s:=by
 have r2:Vals (vs ++ dvs) (us ++ ds):=r.append hd
 have hl:(us ++ ds).length=ps.length:=by rw [← r2.length]; exact F.len _ _ _ _ h
 refine wpAny_call (codeAny_mono (F.run X.A X.stack s H ⟨us,[]⟩ (us ++ ds) (vs ++ dvs) Q E hr I.env0 (hb s us I.kIn hl) r2 h) fun r s' hq=>?_)
 cases r with
 | error e=>exact hx pins σ H s e s' I hq
 | ok fl=>
  cases fl with
  | ret u=>exact I.after hq
  | next=>exact False.elim hq
  | brk=>exact False.elim hq
  | cont=>exact False.elim hq
theorem pe_call (F:FnOk X.prog X.w X.K X.mg X.base CX k f fd ps sp) (hr:Room k X.A) (hg:Gl X x) (hm:X.mg x=some (.ref f)) (hk:PySem.W.keepIn X.K (.ref f)=true) (hb:Binds X.K fd ps ds) (hd:Vals dvs ds) (hx:Passes CX X E)
  (ha:PA X (e :: es) t) (hdb:(x == ("__debug__":Str))=false:=by decide) (he:starEach (e :: es) X.env=(false,eval e X.env) :: starEach es X.env:=by rfl) (hpl:(backTo pos (starEach es X.env)).any (·.1)=false:=by rfl):
  PE X (.Call (.Name x p) (e :: es) [] pos) (tCall sp dvs E t):=by
 intro pins s σ H Q I h
 refine wpAny_Call_Name_kw (ld_glob I hg hm ?_ hdb)
 refine PySem.W.callWith_K (h₀:=X.base) I.ok.mod.kin hk (thn (ha pos pins s σ H _ I h) fun us s1 ⟨vs,H1,I1,r,q⟩=>⟨I1.kIn,?_⟩) he hpl
 exact run_fn F hr hb hd hx I1 r q
theorem pe_meth {pl:Sem Bool} (he:PE X o ta) (c:Cls X.K C) (hm:Meth X.K C m f) (F:FnOk X.prog X.w X.K X.mg X.base CX k f fd ps sp) (hr:Room k X.A) (hb:Binds X.K fd ps ds) (hd:Vals dvs ds) (hx:Passes CX X E) (ha:PA X (e :: es) t)
  (hst:starEach (e :: es) X.env=(false,eval e X.env) :: starEach es X.env:=by rfl) (hpl:(backTo pos (starEach es X.env)).any (·.1)=false:=by rfl)
  (ht:eval (.Call (.Attribute o m apos) (e :: es) [] pos) X.env=(do
   let ov ← eval o X.env
   standAt apos.atName
   let (f,first) ← holding [ov] (getMethod ov m pl)
   callWith pos f first (backTo pos (starEach (e :: es) X.env)) (backToKw pos (keywordEach [] X.env))):=by rfl):
  PE X (.Call (.Attribute o m apos) (e :: es) [] pos) (tMeth C m sp dvs E ta t):=by
 intro pins s σ H Q I h
 refine PySem.W.methodCall_KW (pl:=pl) (thn (he pins s σ H _ I h) fun u s1 ⟨x,H1,I1,rx,a,dx,fs,ex,ea,l,q⟩=>?_) ht
 subst ex
 obtain rfl:u=Value.ref a:=rx
 refine getmeth_ok I1 ea c hm l ?_
 refine PySem.W.callWith_K (first:=[.ref a]) (h₀:=X.base) I.ok.mod.kin hm.kp (thn (ha pos pins s1 σ H1 _ I1 q) fun us s2 ⟨vs,H2,I2,r,q2⟩=>⟨I2.kIn,?_⟩) hst hpl
 exact run_fn (us:=.ref a :: us) (vs:=.ref a :: vs) F hr hb hd hx I2 (.cons rfl r) q2
theorem pe_meth0 {pl:Sem Bool} (he:PE X o ta) (c:Cls X.K C) (hm:Meth X.K C m f) (F:FnOk X.prog X.w X.K X.mg X.base CX k f fd ps sp) (hr:Room k X.A) (hb:Binds X.K fd ps ds) (hd:Vals dvs ds) (hx:Passes CX X E)
  (ht:eval (.Call (.Attribute o m apos) [] [] pos) X.env=(do
   let ov ← eval o X.env
   standAt apos.atName
   let (f,first) ← holding [ov] (getMethod ov m pl)
   callWith pos f first (backTo pos (starEach [] X.env)) (backToKw pos (keywordEach [] X.env))):=by rfl):
  PE X (.Call (.Attribute o m apos) [] [] pos) (tMeth C m sp dvs E ta tNil):=by
 intro pins s σ H Q I h
 refine PySem.W.methodCall_KW (pl:=pl) (thn (he pins s σ H _ I h) fun u s1 ⟨x,H1,I1,rx,a,dx,fs,ex,ea,l,q⟩=>?_) ht
 subst ex
 obtain rfl:u=Value.ref a:=rx
 refine getmeth_ok I1 ea c hm l ?_
 exact PySem.W.callWith_K0 (first:=[.ref a]) I1.kIn hm.kp (run_fn (us:=[.ref a]) (vs:=[.ref a]) F hr hb hd hx I1 (.cons rfl .nil) q)
structure Mk (K : PySem.W.Frag) (C f : Addr) : Prop where
  makes : PySem.W.makesIn K C = true
  init : PySem.W.findIn K (.ref C) "__init__" = some (some (.ref f))
  fn : PySem.W.isFn K (.ref f) = true
  kp : PySem.W.keepIn K (.ref C) = true
theorem run_make {pins:List (Addr × Obj)} {σ:St} {H:Hp} {s:Shared} {Q:VK} {us:List Value} {vs:List V} (M:Mk X.K C f) (F:FnOk X.prog X.w X.K X.mg X.base CX k f fd ps sp) (hr:Room (k + 1) X.A) (hb:Binds X.K fd ps ds) (hd:Vals dvs ds)
  (hx:Passes CX X E) (I:Inv X pins σ H s) (r:Vals vs us)
  (h:∀ x dx,H x=none→H dx=none→dx ≠ x→sp (.ref x :: (vs ++ dvs)) (upd (upd H dx (.own x)) x (.ins C dx [])) (fun v H2=>v=.non∧Q (.ref x) H2) E):
  wpAny (model X.prog X.w) X.A (call (.ref C) us) (EP X pins σ Q) X.xe s:=by
 have hq:=h (s.heap.objs.size + 1) s.heap.objs.size (I.hok.fresh (Nat.le_succ _)) (I.hok.fresh (Nat.le_refl _)) (Nat.ne_of_lt (Nat.lt_succ_self _))
 have I2:=Inv.made (C:=C) I
 have r2:Vals (V.ref (s.heap.objs.size + 1) :: (vs ++ dvs)) (Value.ref (s.heap.objs.size + 1) :: (us ++ ds)):=.cons rfl (r.append hd)
 have hl:(Value.ref (s.heap.objs.size + 1) :: us ++ ds).length=ps.length:=by
  have e:=r2.length
  rw [F.len _ _ _ _ hq] at e
  exact e.symm
 refine wpAny_call (make_map (f:=f) I.kIn M.makes M.init (beq_iff_eq.mp M.fn) (codeAny_mono (F.run _ X.stack _ _ ⟨Value.ref (s.heap.objs.size + 1) :: us,[]⟩ (Value.ref (s.heap.objs.size + 1) :: (us ++ ds)) _ _ E (hr.make C us [])
  (I2.env0.make C us []) (hb _ (Value.ref (s.heap.objs.size + 1) :: us) I2.kIn hl) r2 hq) fun r s' hq'=>?_))
 cases r with
 | error e=>exact hx pins σ _ _ e s' I2 hq'
 | ok fl=>
  cases fl with
  | ret u=>
   obtain ⟨v,H',I3,rv,ev,q3⟩:=I2.after hq'
   subst ev
   exact ⟨rv,⟨V.ref (s.heap.objs.size + 1),H',I3,rfl,q3⟩⟩
  | next=>exact False.elim hq'
  | brk=>exact False.elim hq'
  | cont=>exact False.elim hq'
theorem pe_make (M:Mk X.K C f) (F:FnOk X.prog X.w X.K X.mg X.base CX k f fd ps sp) (hr:Room (k + 1) X.A) (hg:Gl X x) (hm:X.mg x=some (.ref C)) (hb:Binds X.K fd ps ds) (hd:Vals dvs ds) (hx:Passes CX X E)
  (ha:PA X (e :: es) t) (hdb:(x == ("__debug__":Str))=false:=by decide) (he:starEach (e :: es) X.env=(false,eval e X.env) :: starEach es X.env:=by rfl) (hpl:(backTo pos (starEach es X.env)).any (·.1)=false:=by rfl):
  PE X (.Call (.Name x p) (e :: es) [] pos) (tMake C sp dvs E t):=by
 intro pins s σ H Q I h
 refine wpAny_Call_Name_kw (ld_glob I hg hm ?_ hdb)
 refine PySem.W.callWith_K (h₀:=X.base) I.ok.mod.kin M.kp (thn (ha pos pins s σ H _ I h) fun us s1 ⟨vs,H1,I1,r,q⟩=>⟨I1.kIn,?_⟩) he hpl
 exact run_make M F hr hb hd hx I1 r q
theorem pe_make0 (M:Mk X.K C f) (F:FnOk X.prog X.w X.K X.mg X.base CX k f fd ps sp) (hr:Room (k + 1) X.A) (hg:Gl X x) (hm:X.mg x=some (.ref C)) (hb:Binds X.K fd ps ds) (hd:Vals dvs ds) (hx:Passes CX X E)
  (hdb:(x == ("__debug__":Str))=false:=by decide):PE X (.Call (.Name x p) [] [] pos) (tMake C sp dvs E tNil):=by
 intro pins s σ H Q I h
 refine wpAny_Call_Name_kw (ld_glob I hg hm ?_ hdb)
 exact PySem.W.callWith_K0 I.kIn M.kp (run_make (us:=[]) M F hr hb hd hx I .nil h)
end
section
variable {X : Cx} {CX : CXT} {k : Nat} {f C : Addr} {fd : FuncData} {ps ks : List Str} {sp : Sp} {E : XK} {x m : Str} {p pos apos kpos : Pos} {e o : Expr} {es : List Expr} {kws : List Keyword} {te ta : TE} {t tk : TA} {nm : Option Str}
variable {g : List Value → List Value → List Value} {gV : List V → List V → List V}
end
structure FnScope (N P : List Str) (sc : Scope) : Prop where
  kind : sc.kind = .function
  co : sc.isCoroutine = false
  gen : sc.isGenerator = false
  nd : N.Nodup
  pre : N.take P.length = P
  par : ∀ x ∈ P, sc.names.lookup x = some .local ∨ sc.names.lookup x = some .cell
  nofree : ∀ y ∈ sc.names, y.2 ≠ .free
theorem bindL_out {kindOf:Str→Option NameKind} {x:Str}:∀ {binds:List (Str × Value)} {m:Str→Option Value},(∀ v,(x,v) ∉ binds)→bindL kindOf binds m x=m x
 | [],_,_=>rfl
 | (n,v) :: r,m,h=>by
  unfold bindL
  rw [bindL_out fun w hw=>h w (List.mem_cons_of_mem _ hw)]
  split
  ·have:x ≠ n:=by rintro rfl; exact h v List.mem_cons_self
   simp [this]
  ·rfl
theorem bindC_out {kindOf:Str→Option NameKind} {x:Str}:∀ {binds:List (Str × Value)} {m:Str→Option Value},(∀ v,(x,v) ∉ binds)→bindC kindOf binds m x=m x
 | [],_,_=>rfl
 | (n,v) :: r,m,h=>by
  unfold bindC
  rw [bindC_out fun w hw=>h w (List.mem_cons_of_mem _ hw)]
  split
  ·rfl
  ·have:x ≠ n:=by rintro rfl; exact h v List.mem_cons_self
   simp [this]
theorem bindL_get {kindOf:Str→Option NameKind} {x:Str} {v:Value}:∀ {P:List Str} {vs:List Value} {i:Nat} {m:Str→Option Value},P.Nodup→P[i]?=some x→vs[i]?=some v→kindOf x=some .local→
  bindL kindOf (P.zip vs) m x=some v
 | [],_,_,_,_,h,_,_=>by simp at h
 | _ :: _,[],_,_,_,_,h,_=>by simp at h
 | p :: P,w :: vs,0,m,nd,h1,h2,hk=>by
  simp at h1 h2; subst h1; subst h2
  show bindL kindOf ((p,w) :: P.zip vs) m p=_
  unfold bindL
  rw [bindL_out fun v hv=>(List.nodup_cons.mp nd).1 (List.of_mem_zip hv).1,if_pos hk]
  simp
 | p :: P,w :: vs,i + 1,m,nd,h1,h2,hk=>by
  show bindL kindOf ((p,w) :: P.zip vs) m x=_
  unfold bindL
  exact bindL_get (i:=i) (List.nodup_cons.mp nd).2 (by simpa using h1) (by simpa using h2) hk
theorem bindC_get {kindOf:Str→Option NameKind} {x:Str} {v:Value}:∀ {P:List Str} {vs:List Value} {i:Nat} {m:Str→Option Value},P.Nodup→P[i]?=some x→vs[i]?=some v→kindOf x ≠ some .local→
  bindC kindOf (P.zip vs) m x=some v
 | [],_,_,_,_,h,_,_=>by simp at h
 | _ :: _,[],_,_,_,_,h,_=>by simp at h
 | p :: P,w :: vs,0,m,nd,h1,h2,hk=>by
  simp at h1 h2; subst h1; subst h2
  show bindC kindOf ((p,w) :: P.zip vs) m p=_
  unfold bindC
  rw [bindC_out fun v hv=>(List.nodup_cons.mp nd).1 (List.of_mem_zip hv).1,if_neg hk]
  simp
 | p :: P,w :: vs,i + 1,m,nd,h1,h2,hk=>by
  show bindC kindOf ((p,w) :: P.zip vs) m x=_
  unfold bindC
  exact bindC_get (i:=i) (List.nodup_cons.mp nd).2 (by simpa using h1) (by simpa using h2) hk
def start (N:List Str) (vs:List V):St:=vs.map some ++ List.replicate (N.length - vs.length) none
def cxOf (CX:CXT) (P:Program) (w:World) (K:PySem.W.Frag) (mg:Str→Option Value) (base:Heap) (N:List Str) (qual:Str) (scope:Scope) (f:Addr) (cd:Value) (A:Around) (outer:List Env) (s:Shared) (H:Hp) (E:XK):Cx where
 prog:=P
 w:=w
 K:=K
 mg:=mg
 base:=base
 A:=A.deeper (envOfC qual scope s.heap.objs.size f cd)
 N:=N
 s₀:=s
 H₀:=H
 env:=envOfC qual scope s.heap.objs.size f cd
 outer:=outer
 stack:=envOfC qual scope s.heap.objs.size f cd :: outer
 ex:=[]
 calm:=true
 fn:=fun _=>true
 pn:=[]
 xe:=fun e s'=>wpAny (model P w) (A.deeper (envOfC qual scope s.heap.objs.size f cd)) (leaving (envOfC qual scope s.heap.objs.size f cd) e) (fun _ s''=>CX outer H s E e s'') (fun e' s''=>CX outer H s E e' s'') s'
theorem cell_has {sc:Scope} {n:Nat} {x:Str} (h:sc.names.lookup x=some .cell):∃ c,(cellsFrom n sc.names []).lookup x=some c:=by
 have q:=PySem.W.cellsFrom_some sc.names n [] (.inl h)
 exact Option.isSome_iff_exists.mp q
theorem inv_start {CX:CXT} {P:Program} {w:World} {K:PySem.W.Frag} {mg:Str→Option Value} {base:Heap} {N ps:List Str} {qual:Str} {scope:Scope} {f:Addr} {cd:Value} {A:Around} {outer:List Env} {s s1:Shared} {H:Hp} {E:XK} {us:List Value} {vs:List V}
  (S:FnScope N ps scope) (hd:A.handled=none) (e0:Env0 P w K mg base A outer s H) (hl:vs.length=ps.length) (r:Vals vs us)
  (x:InCallC s s.heap.objs.size (bindL (envOfC qual scope s.heap.objs.size f cd).kindOf (ps.zip us) fun _=>none) (cellsFrom (s.heap.objs.size + 1) scope.names []) (bindC (envOfC qual scope s.heap.objs.size f cd).kindOf (ps.zip us) fun _=>none) s1):
  Inv (cxOf CX P w K mg base N qual scope f cd A outer s H E) [] (start N vs) H s1:=by
 have hpl:ps.length ≤ N.length:=by have:=congrArg List.length S.pre; rw [List.length_take] at this; omega
 obtain ⟨h1,tk,rfl,hk⟩:=x.done
 have noA:∀ b:Addr,b ∉ (cxOf CX P w K mg base N qual scope f cd A outer s H E).ex:=fun b z=>absurd (show b ∈ ([]:List Addr) from z) (by simp)
 refine ⟨⟨e0.mod,S.kind,rfl,rfl,Nat.le_refl _,fun y z c h1 h2=>?_,fun y hy=>?_,fun y c _ h=>?_,fun _=>hd,Around.frames_deeper e0.frames,.inr ⟨rfl,rfl⟩,fun b z=>absurd z (noA b),e0.bs,e0.bsz,fun b _ _=>noA b,fun b z=>absurd z (noA b),e0.funs,e0.frf⟩,
  rfl,e0.bare,Un.kept hk,⟨_,x.toInCall.ns,fun i y v h1 h2 h3=>?_⟩,fun y c h=>⟨_,x.cell y c h⟩,e0.hok.fresh (Nat.le_refl _),fun y c h=>?_,fun p hp=>absurd (show p ∈ ([]:List (Addr × Obj)) from hp) (by simp),e0.hok.kept hk,?_⟩
 ·exact name_of_addr x.apart (PySem.mem_of_lookup h1) (PySem.mem_of_lookup h2)
 ·have hy:scope.names.lookup y=some .cell ∨ scope.names.lookup y=some .free:=hy
  rcases hy with hy | hy
  ·exact cell_has hy
  ·exact absurd rfl (S.nofree _ (PySem.mem_of_lookup hy))
 ·exact Nat.le_of_lt (x.above y c (PySem.mem_of_lookup h))
 ·have hi:i < vs.length:=by
   unfold start at h2
   by_cases hi:i < vs.length
   ·exact hi
   ·rw [List.getElem?_append_right (by simpa using hi)] at h2
    rw [List.getElem?_replicate] at h2
    split at h2 <;> cases h2
  have ha:vs[i]?=some v:=by
   unfold start at h2
   rw [List.getElem?_append_left (by simpa using hi),List.getElem?_map] at h2
   cases e:vs[i]? with
   | none=>rw [e] at h2; cases h2
   | some a=>rw [e] at h2; cases h2; rfl
  obtain ⟨u,hu,rv⟩:=r.get ha
  have hp:ps[i]?=some y:=by
   rw [← S.pre,List.getElem?_take_of_lt (by omega)]; exact h1
  have ndP:ps.Nodup:=by rw [← S.pre]; exact S.nd.sublist (List.take_sublist _ _)
  refine ⟨u,rv,?_⟩
  rcases S.par y (List.mem_of_getElem? hp) with k | k
  ·exact .inl ⟨k,bindL_get ndP hp hu k⟩
  ·obtain ⟨c,e⟩:=cell_has (n:=s.heap.objs.size + 1) k
   refine .inr ⟨.inl k,c,e,?_⟩
   have q:=x.cell y c e
   rw [bindC_get ndP hp hu (by show scope.names.lookup y ≠ _; rw [k]; decide)] at q
   exact q
 ·exact e0.hok.fresh (Nat.le_of_lt (x.above y c (PySem.mem_of_lookup h)))
 ·unfold start
  show _=N.length
  rw [List.length_append,List.length_map,List.length_replicate]
  omega
theorem fn_of {CX:CXT} {P:Program} {w:World} {K:PySem.W.Frag} {mg:Str→Option Value} {base:Heap} {k:Nat} {f:Addr} {name qual:Str} {params:Arguments} {body:List Stmt} {scope:Scope} {dV kV doc pm cdv ct oc:Value} {an od:Option Addr}
  {osl:Array (Option Value)} {N ps:List Str} {sp:Sp} (lk:K.lookup f=some ⟨oc,od,.func (PySem.W.fnOf name qual params body scope dV kV doc pm an cdv ct),osl⟩) (hcd:PySem.W.codeIn K cdv qual=true) (S:FnScope N ps scope)
  (len:∀ vs H Q E,sp vs H Q E→vs.length=ps.length)
  (hbody:∀ (A:Around) (outer:List Env) (s:Shared) (H:Hp) (vs:List V) (Q:VK) (E:XK),Room k (A.deeper (envOfC qual scope s.heap.objs.size f cdv))→sp vs H Q E→
   ∃ t,PSs (cxOf CX P w K mg base N qual scope f cdv A outer s H E) body t∧t { nx:=fun _ H'=>Q .non H',rt:=Q } (start N vs) H):
  FnOk P w K mg base CX (k + 1) f (PySem.W.fnOf name qual params body scope dV kV doc pm an cdv ct) ps sp:=by
 refine ⟨len,fun A outer s H args us vs Q E hr e0 hb r hsp=>?_⟩
 have hl:=len _ _ _ _ hsp
 have KX:K.In s.heap:=e0.mod.kin.keeps fun b o e=>(e0.bs b o e).1
 have lim:s.heap.NoLimit:=e0.mod.nolimit.keeps fun b o e=>(e0.bs b o e).1
 have hkind:∀ y ∈ ps.zip us,scope.names.lookup y.1=some .local ∨ (scope.names.lookup y.1=some .cell∧((cellsFrom (s.heap.objs.size + 1) scope.names []).lookup y.1).isSome=true):=fun ⟨n,v⟩ hy=>by
  rcases S.par n (List.of_mem_zip hy).1 with q | q
  ·exact .inl q
  ·exact .inr ⟨q,PySem.W.cellsFrom_some _ _ _ (.inl q)⟩
 refine codeAny_call_function hr.depth (KX _ _ lk) rfl S.co S.gen rfl (PySem.W.codeRec_of KX hcd) (hb _ _ _ _ ?_)
 refine wpAny_newFunctionEnv_cells S.kind hkind fun env he s1 x=>?_
 subst he
 refine ⟨lim.keeps x.toInCall.keep,codeAny_func ?_⟩
 obtain ⟨t,ht,hq⟩:=hbody A outer s H vs Q E (hr.deeper _) hsp
 have I:Inv (cxOf CX P w K mg base N qual scope f cdv A outer s H E) [] (start N vs) H s1:=inv_start S hr.hd e0 hl r x
 refine wpAny_mono (ht [] s1 (start N vs) H _ I hq) (fun fl s' hs=>?_) fun e s' hs=>hs
 have fin:∀ {σ':St} {H':Hp} {v:V} {u:Value},Inv (cxOf CX P w K mg base N qual scope f cdv A outer s H E) [] σ' H' s'→RelV v u→Q v H'→CE outer P w H s Q u s':=
  fun {σ' H' v u} J rv q=>⟨v,H',J.os,J.bare,J.base,J.hok,rv,q⟩
 cases fl with
 | ret u=>
  obtain ⟨v,σ',H',J,rv,q⟩:=hs
  exact fin J rv q
 | next=>
  obtain ⟨σ',H',J,q⟩:=hs
  exact fin (v:=V.non) (u:=Value.none) J rfl q
 | brk=>
  obtain ⟨_,_,_,q⟩:=hs
  exact False.elim q
 | cont=>
  obtain ⟨_,_,_,q⟩:=hs
  exact False.elim q
end L2
namespace L2
open PySem PySem.Spec PyProof.Rows
section
variable {X : Cx} {x : Str} {p pos : Pos} {e : Expr} {es : List Expr} {t : TA} {id T : String} {r : List V → Hp → VK → Prop}
def tCB (r:List V→Hp→VK→Prop) (t:TA):TE:=fun σ H Q=>t σ H fun vs H1=>r vs H1 Q
theorem pe_callB (hc:CallR X (.builtin id) r) (hg:Gl X x) (hm:X.mg x=none) (hv:bootBuiltins x=some (.builtin id)) (ha:PA X (e :: es) t) (hn:x ≠ "__name__":=by decide) (hdb:(x == ("__debug__":Str))=false:=by decide)
  (he:starEach (e :: es) X.env=(false,eval e X.env) :: starEach es X.env:=by rfl) (hpl:(backTo pos (starEach es X.env)).any (·.1)=false:=by rfl):PE X (.Call (.Name x p) (e :: es) [] pos) (tCB r t):=by
 intro pins s σ H Q I h
 refine wpAny_Call_Name_kw (ld_blt I hg hm hv ?_ hn hdb)
 exact PyProof.Rows.callWith_builtin1 (thn (ha pos pins s σ H _ I h) fun us s1 ⟨vs,H1,I1,r1,q1⟩=>hc pins s1 σ H1 vs us Q I1 r1 q1) he hpl
theorem pe_callTy (hc:CallR X (.type T) r) (hg:Gl X x) (hm:X.mg x=none) (hv:bootBuiltins x=some (.type T)) (ha:PA X (e :: es) t) (hn:x ≠ "__name__":=by decide) (hdb:(x == ("__debug__":Str))=false:=by decide)
  (he:starEach (e :: es) X.env=(false,eval e X.env) :: starEach es X.env:=by rfl) (hpl:(backTo pos (starEach es X.env)).any (·.1)=false:=by rfl):PE X (.Call (.Name x p) (e :: es) [] pos) (tCB r t):=by
 intro pins s σ H Q I h
 refine wpAny_Call_Name_kw (ld_blt I hg hm hv ?_ hn hdb)
 exact PyProof.Rows.callWith_type1 (thn (ha pos pins s σ H _ I h) fun us s1 ⟨vs,H1,I1,r1,q1⟩=>hc pins s1 σ H1 vs us Q I1 r1 q1) he hpl
end
end L2
namespace HT
open PySem PyProof.Rows
theorem eqAt_int (A:Around) (s:Shared) (a:Int) (t:Tok) (c:Int) (u:Tok):∃ e,SeqAt.EqAt A s (.int a t) (.int c u) e∧(e=true ↔ a=c):=
 ⟨(a == c),SeqAt.EqAt.int_int a t c u,by simp⟩
section
open PySem.SeqAt
open PySem.AutoSeq1 (wpAny_loadPart')
open PySem.MeetsSeq PySem.MeetsSeq2 PySem.MeetsSeq3
end
section
variable {prog : Program} {w : World} {A : Around} {E : Value → Shared → Prop} {s : Shared}
def sIx (n d:Nat):Option Int→Nat
 | none=>d
 | some v=>if v < 0 then (v + (n:Int)).toNat else min v.toNat n
theorem sIx_none (n d:Nat):sIx n d none=d:=rfl
theorem sIx_nat (n d k:Nat):sIx n d (some (k:Int))=min k n:=by
 show (if (k:Int) < 0 then ((k:Int) + (n:Int)).toNat else min (k:Int).toNat n)=min k n
 rw [if_neg (by omega),Int.toNat_natCast]
theorem sIx_le (n d:Nat) (hd:d ≤ n) (o:Option Int):sIx n d o ≤ n:=by
 cases o with
 | none=>exact hd
 | some v=>
  show (if v < 0 then (v + (n:Int)).toNat else min v.toNat n) ≤ n
  by_cases hv:v < 0
  ·rw [if_pos hv]; omega
  ·rw [if_neg hv]; exact Nat.min_le_right _ _
theorem clip_eq (v:Int) (n d:Nat):(if v < 0 then max (v + (n:Int)) 0 else min v (n:Int))=((sIx n d (some v):Nat):Int):=by
 show (if v < 0 then max (v + (n:Int)) 0 else min v (n:Int))=(((if v < 0 then (v + (n:Int)).toNat else min v.toNat n):Nat):Int)
 by_cases hv:v < 0
 ·simp only [if_pos hv]; omega
 ·simp only [if_neg hv]; omega
theorem adjust_gen (lo hi:Option Int) (n:Nat):Builtin.Slice.sliceAdjust lo hi 1 (n:Int)=(((sIx n 0 lo:Nat):Int),((sIx n n hi:Nat):Int)):=by
 have h1:¬ ((1:Int) < 0):=by omega
 unfold Builtin.Slice.sliceAdjust
 simp only [h1,if_false]
 refine Prod.ext ?_ ?_
 ·cases lo with
  | none=>rfl
  | some v=>exact clip_eq v n 0
 ·cases hi with
  | none=>rfl
  | some v=>exact clip_eq v n n
theorem places_gen (i j:Nat):Builtin.Slice.slicePlaces (i:Int) (j:Int) 1=j - i:=by
 unfold Builtin.Slice.slicePlaces
 have h1:(1:Int) > 0:=by omega
 simp only [h1,if_true,Int.ediv_one]
 split <;> omega
theorem slicePart_ {v:Value} {o:Option Int} {Q:Option Int→Shared→Prop} (p:IsPart v o) (h:Q o s):wpAny (model prog w) A (Builtin.Slice.slicePartIndex v) Q E s:=by
 cases p with
 | none=>exact slicePart_none h
 | int i t=>exact slicePart_int h
theorem sliceApplied_gen {sl:Addr} {vl vu:Value} {lo hi:Option Int} {n:Nat} {Q:Int × Int × Nat→Shared→Prop} (hs:s.heap.IsSliceOf sl vl vu .none) (pl:IsPart vl lo) (pu:IsPart vu hi)
  (h:Q (((sIx n 0 lo:Nat):Int),1,sIx n n hi - sIx n 0 lo) s):wpAny (model prog w) A (Builtin.Slice.sliceApplied (.ref sl) (pure (n:Int))) Q E s:=by
 obtain ⟨os,hos,hcs,hds⟩:=id hs
 unfold Builtin.Slice.sliceApplied Builtin.Slice.sliceFields
 refine wpAny_bind (wpAny_bind (wpAny_field hos hds (x:=vl) rfl (wpAny_bind (wpAny_field hos hds (x:=vu) rfl (wpAny_bind (wpAny_field hos hds (x:=.none) rfl (wpAny_pure ?_)))))))
 refine wpAny_bind (slicePart_none ?_)
 show wpAny _ _ (if ((1:Int) == 0)=true then _ else _) _ _ s
 rw [if_neg (by decide)]
 refine wpAny_bind (slicePart_ pl (wpAny_bind (slicePart_ pu (wpAny_bind (wpAny_pure ?_)))))
 show wpAny _ _ (match Builtin.Slice.sliceAdjust lo hi 1 (n:Int) with | (lo,hi)=>pure (lo,(1:Int),Builtin.Slice.slicePlaces lo hi 1)) _ _ s
 rw [adjust_gen lo hi n]
 show wpAny _ _ (pure (((sIx n 0 lo:Nat):Int),(1:Int),Builtin.Slice.slicePlaces ((sIx n 0 lo:Nat):Int) ((sIx n n hi:Nat):Int) 1)) _ _ s
 rw [places_gen]
 exact wpAny_pure h
theorem pick_gen (xs:Array Value) (i k:Nat):((List.range k).filterMap fun (m:Nat)=>xs[((i:Int) + (m:Int) * 1).toNat]?).toArray=((xs.toList.drop i).take k).toArray:=by
 have e:(fun (m:Nat)=>xs[((i:Int) + (m:Int) * 1).toNat]?)=fun m=>xs[i + m]?:=by
  funext m
  have:((i:Int) + (m:Int) * 1).toNat=i + m:=by omega
  rw [this]
 rw [e]
 have:=pick_run xs i k
 rw [List.filterMap_map] at this
 have e2:((fun x=>xs[x]?) ∘ fun x=>i + x)=fun m=>xs[i + m]?:=rfl
 rw [e2] at this
 rw [this]
theorem getItem_tuple_cut {t sl:Addr} {items:Array Value} {vl vu:Value} {lo hi:Option Int} {Q:Value→Shared→Prop} (ht:IsTup s.heap t items) (hs:s.heap.IsSliceOf sl vl vu .none) (pl:IsPart vl lo) (pu:IsPart vu hi)
  (hw:¬ (sIx items.size 0 lo=0∧sIx items.size items.size hi=items.size))
  (h:Q (.ref s.heap.objs.size) { s with heap:=s.heap.push { cls:=.type "tuple",data:=.seq ((items.toList.drop (sIx items.size 0 lo)).take (sIx items.size items.size hi - sIx items.size 0 lo)).toArray } })
  (hsz:items.size ≤ sizeLine):wpAny (model prog w) A (getItem (.ref t) (.ref sl)) Q E s:=by
 have htake:sizeOk (.seq ((items.toList.drop (sIx items.size 0 lo)).take (sIx items.size items.size hi - sIx items.size 0 lo)).toArray):=by
  show ((items.toList.drop (sIx items.size 0 lo)).take (sIx items.size items.size hi - sIx items.size 0 lo)).toArray.size ≤ sizeLine
  rw [List.size_toArray,List.length_take,List.length_drop,Array.length_toList]
  omega
 have hj:sIx items.size items.size hi ≤ items.size:=sIx_le _ _ (Nat.le_refl _) hi
 obtain ⟨os,hos,hcs,hds⟩:=id hs
 have hTs:s.TypeIs (.ref sl) "slice":=⟨os,hos,hcs⟩
 unfold getItem
 try with_reducible refine wpAny_holding ?_
 first | refine wpAny_bind (wpAny_pure ?_) | skip
 refine wpAny_bind (wpAny_sequenceKey ht.typeIs (by decide) ?_)
 refine wpAny_bind (wpAny_callSpecial?_slot (name:=Str.ofString "__getitem__") ht.typeIs PyProof.Rows.slot_tuple_getitem
  (wpAny_call_entry PyProof.Rows.slot_tuple_getitem ht.typeIs entry_tuple_getitem ?_ (args_tuple_getitem _ _)))
 show wpAny _ _ (Builtin.Tuple.tupleItemsOf (.ref t) >>= _) _ _ s
 refine wpAny_bind (tupleItemsOf_ ht ?_)
 refine wpAny_bind (wpAny_typeOf hTs ?_)
 rw [if_pos (by decide)]
 refine wpAny_bind (sliceApplied_gen hs pl pu ?_)
 have hno:¬ ((((sIx items.size 0 lo:Nat):Int) == 0 && (1:Int) == 1 && (sIx items.size items.size hi - sIx items.size 0 lo) == items.size)=true):=by
  intro q
  rw [Bool.and_eq_true,Bool.and_eq_true] at q
  have q1:((sIx items.size 0 lo:Nat):Int)=0:=eq_of_beq q.1.1
  have q2:sIx items.size items.size hi - sIx items.size 0 lo=items.size:=eq_of_beq q.2
  exact hw ⟨by omega,by omega⟩
 show wpAny _ _ (if (((sIx items.size 0 lo:Nat):Int) == 0 && (1:Int) == 1 && (sIx items.size items.size hi - sIx items.size 0 lo) == items.size)=true then _ else _) _ _ s
 rw [if_neg hno,pick_gen]
 first
  | exact wpAny_bind (m:=Builtin.Tuple.tupleExact _) (wpAny_newObj_type (wpAny_pure ⟨_,rfl,wpAny_pure h⟩) htake)
  | exact wpAny_bind (m:=Builtin.Tuple.tupleExact _) (wpAny_newObj_type (wpAny_bind (wpAny_pure (wpAny_pure ⟨_,rfl,wpAny_pure h⟩))) htake)
  | exact wpAny_bind (wpAny_bind (m:=Builtin.Tuple.tupleExact _) (wpAny_newObj_type (wpAny_pure (wpAny_pure ⟨_,rfl,wpAny_pure h⟩)) htake))
  | exact wpAny_bind (wpAny_bind (m:=Builtin.Tuple.tupleExact _) (wpAny_newObj_type (wpAny_pure ⟨_,rfl,wpAny_pure h⟩) htake))
end
end HT
namespace L2
open PySem PySem.Spec PyProof.Rows
abbrev TO:=St→Hp→(Option Int→Hp→Prop)→Prop
def PO (X:Cx) (e:Option Expr) (t:TO):Prop:=
 ∀ (pins:List (Addr × Obj)) (s:Shared) (σ:St) (H:Hp) (Q:Option Int→Hp→Prop),Inv X pins σ H s→t σ H Q→
  wpAny (model X.prog X.w) X.A (evalPart e X.env) (fun u s'=>∃ o H',Inv X pins σ H' s'∧IsPart u o∧Q o H') X.xe s
def tNoPart:TO:=fun _ H Q=>Q none H
def tPart (t:TE):TO:=fun σ H Q=>t σ H fun x H1=>∃ i,x=.int i∧Q (some i) H1
section
variable {X : Cx} {e : Expr} {te : TE} {lo hi : Option Expr} {tl th : TO} {pos p2 : Pos}
theorem po_none:PO X none tNoPart:=by
 intro pins s σ H Q I h
 rw [evalPart_none]
 exact wpAny_pure ⟨none,H,I,.none,h⟩
theorem po_some (h:PE X e te):PO X (some e) (tPart te):=by
 intro pins s σ H Q I hw
 rw [evalPart_some]
 refine thn (h pins s σ H _ I hw) fun u s1 ⟨x,H1,I1,r1,q1⟩=>?_
 obtain ⟨i,rfl,q⟩:=q1
 obtain ⟨t,rfl⟩:=r1
 exact ⟨some i,H1,I1,.int i t,q⟩
def SlR (X:Cx) (r:V→Option Int→Option Int→Hp→VK→Prop):Prop:=
 ∀ (pins:List (Addr × Obj)) (s:Shared) (σ:St) (H:Hp) (x:V) (v vl vu:Value) (lo hi:Option Int) (sl:Addr) (Q:VK),Inv X pins σ H s→RelV x v→s.heap.IsSliceOf sl vl vu .none→IsPart vl lo→IsPart vu hi→r x lo hi H Q→
  ∃ T id,typeLookup (.type T) "__getitem__"=pure (some (.builtin id))∧s.TypeIs v T∧wpAny (model X.prog X.w) X.A (getItem v (.ref sl)) (EP X pins σ Q) X.xe s
theorem SlR.or {r r':V→Option Int→Option Int→Hp→VK→Prop} (h:SlR X r) (h':SlR X r'):SlR X (fun x lo hi H Q=>r x lo hi H Q ∨ r' x lo hi H Q):=by
 intro pins s σ H x v vl vu lo hi sl Q I rx hs pl pu q
 rcases q with q | q
 ·exact h pins s σ H x v vl vu lo hi sl Q I rx hs pl pu q
 ·exact h' pins s σ H x v vl vu lo hi sl Q I rx hs pl pu q
def tSl (r:V→Option Int→Option Int→Hp→VK→Prop) (te:TE) (tl th:TO):TE:=fun σ H Q=>te σ H fun x H1=>tl σ H1 fun l H2=>th σ H2 fun u H3=>r x l u H3 Q
theorem pe_slice {r:V→Option Int→Option Int→Hp→VK→Prop} (hr:SlR X r) (he:PE X e te) (hl:PO X lo tl) (hu:PO X hi th):PE X (.Subscript e (.Slice lo hi none p2) pos) (tSl r te tl th):=by
 intro pins s σ H Q I h
 refine Subscript_ (thn (he pins s σ H _ I h) fun v s1 ⟨x,H1,I1,r1,q1⟩=>?_)
 refine wpAny_Slice (thn (hl pins s1 σ H1 _ I1 q1) fun vl s2 ⟨l,H2,I2,pl,q2⟩=>thn (hu pins s2 σ H2 _ I2 q2) fun vu s3 ⟨u,H3,I3,pu,q3⟩=>?_)
 rw [evalPart_none]
 refine wpAny_pure ?_
 have I4:Inv X pins σ H3 { s3 with heap:=s3.heap.push { cls:=.type "slice",data:=.fields #[vl,vu,.none] } }:=I3.kept (t':=s3.toks) fun b ob q=>Heap.get?_push_of_some _ q
 obtain ⟨T,id,hT,ht,hg⟩:=hr pins { s3 with heap:=s3.heap.push { cls:=.type "slice",data:=.fields #[vl,vu,.none] } } σ H3 x v vl vu l u s3.heap.objs.size Q I4 r1 (Heap.IsSliceOf.new ..) pl pu q3
 show wpAny (model X.prog X.w) X.A (subscriptTail e (.Slice lo hi none p2) v (.ref s3.heap.objs.size)) (EP X pins σ Q) X.xe { s3 with heap:=s3.heap.push { cls:=.type "slice",data:=.fields #[vl,vu,.none] } }
 exact tail_any (ops:=[.ref s3.heap.objs.size,v]) ht hT hg (by with_unfolding_all rfl)
def cutV (xs:List V) (lo hi:Option Int):List V:=(xs.drop (HT.sIx xs.length 0 lo)).take (HT.sIx xs.length xs.length hi - HT.sIx xs.length 0 lo)
theorem cutV_length (xs:List V) (lo hi:Option Int):(cutV xs lo hi).length ≤ xs.length:=by
 unfold cutV
 rw [List.length_take,List.length_drop]
 omega
def rSlT (K:PySem.W.Frag):V→Option Int→Option Int→Hp→VK→Prop:=fun x lo hi H Q=>∃ a xs,x=.ref a∧SqT K H a xs∧
 ¬ (HT.sIx xs.length 0 lo=0∧HT.sIx xs.length xs.length hi=xs.length)∧∀ p,H p=none→Q (.ref p) (upd H p (.tup (cutV xs lo hi)))
theorem sl_tup:SlR X (rSlT X.K):=by
 intro pins s σ H x v vl vu lo hi sl Q I rx hs pl pu h
 obtain ⟨a,xs,rfl,hx,hw,q⟩:=h
 cases rx
 obtain ⟨its,r,ht,hz⟩:=I.tuple hx
 have hlen:its.toArray.size=xs.length:=by rw [List.size_toArray]; exact r.length.symm
 refine ⟨"tuple",_,PyProof.Rows.slot_tuple_getitem.lookup,ht.typeIs,?_⟩
 refine HT.getItem_tuple_cut ht hs pl pu (by rw [hlen]; exact hw) ?_ (by rw [hlen]; exact hz)
 rw [hlen]
 refine ⟨.ref s.heap.objs.size,_,I.laid (t':=s.toks) (o:=.tup (cutV xs lo hi)) (fun b ob q=>Heap.get?_push_of_some _ q) (Nat.le_refl _) ?_,rfl,q _ (I.hok.fresh (Nat.le_refl _))⟩
 exact ⟨Nat.le_trans (cutV_length xs lo hi) hz,_,(r.drop (HT.sIx xs.length 0 lo)).take (HT.sIx xs.length xs.length hi - HT.sIx xs.length 0 lo),IsTup.new _ _⟩
end
end L2
namespace L2
open PySem PySem.Spec PyProof.Rows
def ixN (n:Nat) (i:Int):Option Nat:=if 0 ≤ i then (if i < n then some i.toNat else none) else if -(n:Int) ≤ i then some (i + n).toNat else none
def atI {α:Type} (xs:List α) (i:Int):Option α:=(ixN xs.length i).bind fun j=>xs[j]?
theorem ixN_seq {n:Nat} {i:Int} {j:Nat} (h:ixN n i=some j):seqIndex? i n=some j∧j < n∧-(n:Int) ≤ i∧i < n:=by
 unfold ixN at h
 by_cases h0:0 ≤ i
 ·rw [if_pos h0] at h
  by_cases h1:i < n
  ·rw [if_pos h1] at h
   have e:i.toNat=j:=Option.some.inj h
   exact ⟨by rw [seqIndex_of h0 h1,e],by omega,by omega,h1⟩
  ·rw [if_neg h1] at h; cases h
 ·rw [if_neg h0] at h
  by_cases h1:-(n:Int) ≤ i
  ·rw [if_pos h1] at h
   have e:(i + n).toNat=j:=Option.some.inj h
   exact ⟨by rw [seqIndex_neg (by omega) h1,e],by omega,h1,by omega⟩
  ·rw [if_neg h1] at h; cases h
theorem atI_get {α:Type} {xs:List α} {i:Int} {v:α} (h:atI xs i=some v):∃ j,seqIndex? i xs.length=some j∧xs[j]?=some v∧j < xs.length∧-(xs.length:Int) ≤ i∧i < xs.length:=by
 unfold atI at h
 cases e:ixN xs.length i with
 | none=>rw [e] at h; cases h
 | some j=>
  rw [e] at h
  obtain ⟨h1,h2,h3,h4⟩:=ixN_seq e
  exact ⟨j,h1,h,h2,h3,h4⟩
theorem atI_nat {α:Type} {xs:List α} {j:Nat} {v:α} (h:xs[j]?=some v):atI xs (j:Int)=some v:=by
 have hj:j < xs.length:=(List.getElem?_eq_some_iff.mp h).1
 have e:ixN xs.length (j:Int)=some j:=by
  unfold ixN
  rw [if_pos (by omega),if_pos (by omega)]; simp
 unfold atI; rw [e]; exact h
def PlainIx (b:Expr):Prop:=∀ o i,subscripted b false o i=operate [o,i] (getItem o i)
def IxR (X:Cx) (r:R2):Prop:=
 ∀ (value slice:Expr) (pins:List (Addr × Obj)) (s:Shared) (σ:St) (H:Hp) (x y:V) (v u:Value) (Q:VK),Inv X pins σ H s→RelV x v→RelV y u→r x y H Q→
  subscripted slice false v u=operate [v,u] (getItem v u)→wpAny (model X.prog X.w) X.A (subscriptTail value slice v u) (EP X pins σ Q) X.xe s
def MtR (X:Cx) (id:String) (r:V→List V→Hp→VK→Prop):Prop:=
 ∀ (pins:List (Addr × Obj)) (s:Shared) (σ:St) (H:Hp) (x:V) (xs:List V) (v:Value) (us:List Value) (Q:VK),Inv X pins σ H s→RelV x v→Vals xs us→r x xs H Q→
  wpAny (model X.prog X.w) X.A (call (.builtin id) (v :: us)) (EP X pins σ Q) X.xe s
section
variable {X : Cx} {a b : Expr} {ta tb : TE} {pos : Pos}
theorem IxR.or {r r':R2} (h:IxR X r) (h':IxR X r'):IxR X (fun x y H Q=>r x y H Q ∨ r' x y H Q):=by
 intro value slice pins s σ H x y v u Q I rx ry q hs
 rcases q with q | q
 ·exact h value slice pins s σ H x y v u Q I rx ry q hs
 ·exact h' value slice pins s σ H x y v u Q I rx ry q hs
theorem MtR.or {id:String} {r r':V→List V→Hp→VK→Prop} (h:MtR X id r) (h':MtR X id r'):MtR X id (fun x xs H Q=>r x xs H Q ∨ r' x xs H Q):=by
 intro pins s σ H x xs v us Q I rx rs q
 rcases q with q | q
 ·exact h pins s σ H x xs v us Q I rx rs q
 ·exact h' pins s σ H x xs v us Q I rx rs q
theorem pe_ix {r:R2} (hr:IxR X r) (ha:PE X a ta) (hb:PE X b tb) (hs:PlainIx b):PE X (.Subscript a b pos) (tOp r ta tb):=by
 intro pins s σ H Q I h
 exact Subscript_ (binT ha hb I h fun v u s2 x y H2 I2 rx ry q=>hr a b pins s2 σ H2 x y v u Q I2 rx ry q (hs _ _))
def rIxL (K:PySem.W.Frag):R2:=fun x y H Q=>∃ p xs i v,x=.ref p∧y=.int i∧SqL K H p xs∧atI xs i=some v∧Q v H
def rIxT (K:PySem.W.Frag):R2:=fun x y H Q=>∃ p xs i v,x=.ref p∧y=.int i∧SqT K H p xs∧atI xs i=some v∧Q v H
def rIxS:R2:=fun x y H Q=>∃ z i c,x=.str z∧y=.int i∧z.length ≤ sizeLine∧atI z.cps.toList i=some c∧Q (.str ⟨#[c]⟩) H
theorem ix_list:IxR X (rIxL X.K):=by
 intro value slice pins s σ H x y v u Q I rx ry h hs
 obtain ⟨p,xs,i,z,rfl,rfl,hq,he,q⟩:=h
 cases rx
 obtain ⟨t,rfl⟩:=ry
 obtain ⟨its,r,pl,hz⟩:=I.list hq
 obtain ⟨j,h1,h2,h3,h4,h5⟩:=atI_get he
 obtain ⟨w,ew,rw'⟩:=r.get h2
 have hl:=r.length
 have hn:=line63
 have fin:EP X pins σ Q w s:=⟨z,H,I,rw',q⟩
 by_cases h0:0 ≤ i
 ·have hj:i.toNat=j:=by
   rw [seqIndex_of h0 h5] at h1
   exact Option.some.inj h1
  exact item_listR pl.isList h0 (by omega) (by rw [hj]; simpa using ew) fin hs
 ·have hj:(i + (its.toArray.size:Int)).toNat=j:=by
   rw [seqIndex_neg (by omega) h4] at h1
   rw [List.size_toArray,← hl]
   exact Option.some.inj h1
  exact subscriptTail_builtinR (x:=w) pl.isList.typeIs slot_list_getitem.lookup
   (wpAny_getItem_list_neg (Q:=fun r s'=>r=w∧EP X pins σ Q r s') pl.isList (by omega) (by rw [List.size_toArray] <;> omega) (by omega) (by rw [hj]; simpa using ew) ⟨rfl,fin⟩) hs
theorem ix_tup:IxR X (rIxT X.K):=by
 intro value slice pins s σ H x y v u Q I rx ry h hs
 obtain ⟨p,xs,i,z,rfl,rfl,hq,he,q⟩:=h
 cases rx
 obtain ⟨t,rfl⟩:=ry
 obtain ⟨its,r,pl,hz⟩:=I.tuple hq
 obtain ⟨j,h1,h2,h3,h4,h5⟩:=atI_get he
 obtain ⟨w,ew,rw'⟩:=r.get h2
 have hl:=r.length
 have hn:=line63
 have fin:EP X pins σ Q w s:=⟨z,H,I,rw',q⟩
 exact subscriptTail_builtinR (x:=w) pl.typeIs slot_tuple_getitem.lookup
  (getItem_tuple (j:=j) (Q:=fun r s'=>r=w∧EP X pins σ Q r s') pl (by omega) (by omega) (by rw [List.size_toArray,← hl]; exact h1) (by simpa using ew) ⟨rfl,fin⟩) hs
theorem ix_str:IxR X rIxS:=by
 intro value slice pins s σ H x y v u Q I rx ry h hs
 obtain ⟨z,i,c,rfl,rfl,hz,he,q⟩:=h
 obtain ⟨t,rfl⟩:=rx
 obtain ⟨t',rfl⟩:=ry
 obtain ⟨j,h1,h2,h3,h4,h5⟩:=atI_get he
 have hl:z.cps.toList.length=z.length:=by simp [Str.length]
 rw [hl] at h1 h4 h5
 have hn:=line63
 exact tail_any (typeIs_str s z t) slot_str_getitem.lookup (getItem_str (c:=c) (by
  have e1:decide (i < -(2 ^ 63:Int))=false:=decide_eq_false (by omega)
  have e2:decide (i ≥ 2 ^ 63)=false:=decide_eq_false (by omega)
  rw [e1,e2,Bool.or_false]) (by rw [h1]; simpa using h2) ⟨.str ⟨#[c]⟩,H,I.tok _,⟨_,rfl⟩,q⟩) hs
theorem Inv.lst {pins:List (Addr × Obj)} {σ:St} {H:Hp} {s:Shared} {p:Addr} {xs:List V} (I:Inv X pins σ H s) (h:H p=some (.lst xs)):
  ∃ (its:List Value) (n:Nat),Vals xs its∧s.heap.get? p=some { cls:=.type "list",data:=.seq its.toArray n }∧xs.length ≤ sizeLine:=by
 obtain ⟨z,its,n,r,e⟩:=I.hok p _ h
 exact ⟨its,n,r,e,z⟩
theorem slice_bounds (lo hi:Option Int) (n:Nat):(sliceBounds lo hi none n).1=((HT.sIx n 0 lo:Nat):Int)∧(sliceBounds lo hi none n).2.1=((HT.sIx n n hi:Nat):Int)∧(sliceBounds lo hi none n).2.2=1:=by
 refine ⟨?_,?_,rfl⟩
 ·cases lo with
  | none=>simp [sliceBounds,HT.sIx]
  | some i=>
   simp only [sliceBounds,HT.sIx,Option.getD_none,show (1:Int) > 0 by decide,if_true]
   by_cases h:i < 0
   ·simp only [h,if_true] <;> omega
   ·simp only [h,if_false] <;> omega
 ·cases hi with
  | none=>simp [sliceBounds,HT.sIx]
  | some i=>
   simp only [sliceBounds,HT.sIx,Option.getD_none,show (1:Int) > 0 by decide,if_true]
   by_cases h:i < 0
   ·simp only [h,if_true] <;> omega
   ·simp only [h,if_false] <;> omega
theorem slicePick_cut (its:List Value) (lo hi:Option Int):slicePick its.toArray lo hi none=((its.drop (HT.sIx its.length 0 lo)).take (HT.sIx its.length its.length hi - HT.sIx its.length 0 lo)).toArray:=by
 obtain ⟨h1,h2,h3⟩:=slice_bounds lo hi its.toArray.size
 unfold slicePick
 rw [h1,h2,h3]
 simp only [sliceRange_one,pick_run,List.size_toArray] <;> rfl
def rSlL (K:PySem.W.Frag):V→Option Int→Option Int→Hp→VK→Prop:=fun x lo hi H Q=>∃ a xs,x=.ref a∧SqL K H a xs∧∀ p,H p=none→Q (.ref p) (upd H p (.lst (cutV xs lo hi)))
theorem sl_list:SlR X (rSlL X.K):=by
 intro pins s σ H x v vl vu lo hi sl Q I rx hs pl pu h
 obtain ⟨a,xs,rfl,hx,q⟩:=h
 cases rx
 obtain ⟨its,r,ht,hz⟩:=I.list hx
 have hlen:=r.length
 refine ⟨"list",_,slot_list_getitem.lookup,ht.isList.typeIs,?_⟩
 refine wpAny_getItem_list_slice ht.isList hs pl pu .none (by simp) ?_ (by rw [List.size_toArray] <;> omega)
 rw [slicePick_cut,← hlen]
 refine ⟨.ref s.heap.objs.size,_,I.laid (t':=s.toks) (o:=.lst (cutV xs lo hi)) (fun b ob q=>Heap.get?_push_of_some _ q) (Nat.le_refl _) ?_,rfl,q _ (I.hok.fresh (Nat.le_refl _))⟩
 exact ⟨Nat.le_trans (cutV_length xs lo hi) hz,_,0,(r.drop (HT.sIx xs.length 0 lo)).take (HT.sIx xs.length xs.length hi - HT.sIx xs.length 0 lo),Heap.get?_push_size _ rfl⟩
def flatV:V→Bool
 | .non=>true
 | .bl _=>true
 | .int _=>true
 | .str _=>true
 | _=>false
def eqV:V→V→Bool
 | .non,.non=>true
 | .bl a,.bl b=>a == b
 | .bl a,.int b=>(if a then 1 else 0) == b
 | .int a,.bl b=>a == (if b then 1 else 0)
 | .int a,.int b=>a == b
 | .str a,.str b=>a == b
 | _,_=>false
theorem eqAt_V {A:Around} {s:Shared} {y x:V} {u v:Value} (ry:RelV y u) (rx:RelV x v) (fy:flatV y=true) (fx:flatV x=true):SeqAt.EqAt A s u v (eqV y x):=by
 cases y with
 | non=>
  cases ry
  cases x with
  | non=>cases rx; exact SeqAt.EqAt.same _
  | bl b=>cases rx; exact SeqAt.EqAt.none_bool b
  | int b=>obtain ⟨t,rfl⟩:=rx; exact SeqAt.EqAt.none_int b t
  | str b=>obtain ⟨t,rfl⟩:=rx; exact SeqAt.EqAt.none_str b t
  | _=>exact absurd (show false=true from fx) Bool.false_ne_true
 | bl a=>
  cases ry
  cases x with
  | non=>cases rx; exact SeqAt.EqAt.bool_none a
  | bl b=>cases rx; exact SeqAt.EqAt.bool_bool a b
  | int b=>obtain ⟨t,rfl⟩:=rx; exact SeqAt.EqAt.bool_int a b t
  | str b=>obtain ⟨t,rfl⟩:=rx; exact SeqAt.EqAt.bool_str a b t
  | _=>exact absurd (show false=true from fx) Bool.false_ne_true
 | int a=>
  obtain ⟨t',rfl⟩:=ry
  cases x with
  | non=>cases rx; exact SeqAt.EqAt.int_none a t'
  | bl b=>cases rx; exact SeqAt.EqAt.int_bool a t' b
  | int b=>obtain ⟨t,rfl⟩:=rx; exact SeqAt.EqAt.int_int a t' b t
  | str b=>obtain ⟨t,rfl⟩:=rx; exact SeqAt.EqAt.int_str a t' b t
  | _=>exact absurd (show false=true from fx) Bool.false_ne_true
 | str a=>
  obtain ⟨t',rfl⟩:=ry
  cases x with
  | non=>cases rx; exact SeqAt.EqAt.str_none a t'
  | bl b=>cases rx; exact SeqAt.EqAt.str_bool a t' b
  | int b=>obtain ⟨t,rfl⟩:=rx; exact SeqAt.EqAt.str_int a t' b t
  | str b=>obtain ⟨t,rfl⟩:=rx; exact SeqAt.EqAt.str_str a t' b t
  | _=>exact absurd (show false=true from fx) Bool.false_ne_true
 | _=>exact absurd (show false=true from fy) Bool.false_ne_true
def eqU (x:V) (u:Value):Bool:=match u with
 | .none=>eqV .non x
 | .bool b=>eqV (.bl b) x
 | .int i _=>eqV (.int i) x
 | .str z _=>eqV (.str z) x
 | _=>false
theorem eqU_of {x y:V} {u:Value} (r:RelV y u) (f:flatV y=true):eqU x u=eqV y x:=by
 cases y with
 | non=>cases r; rfl
 | bl b=>cases r; rfl
 | int i=>obtain ⟨t,rfl⟩:=r; rfl
 | str z=>obtain ⟨t,rfl⟩:=r; rfl
 | _=>exact absurd (show false=true from f) Bool.false_ne_true
theorem any_eqU {x:V}:∀ {xs:List V} {us:List Value},Vals xs us→xs.all flatV=true→us.any (eqU x)=xs.any fun y=>eqV y x
 | _,_,.nil,_=>rfl
 | y :: xs,u :: us,.cons r t,f=>by
  rw [List.all_cons,Bool.and_eq_true] at f
  rw [List.any_cons,List.any_cons,eqU_of r f.1,any_eqU t f.2]
theorem mem_eqAt {A:Around} {s:Shared} {x:V} {v:Value} (rx:RelV x v) (fx:flatV x=true):∀ {xs:List V} {us:List Value},Vals xs us→xs.all flatV=true→∀ u ∈ us,SeqAt.EqAt A s u v (eqU x u)
 | _,_,.nil,_=>fun u hu=>by cases hu
 | y :: xs,u :: us,.cons r t,f=>fun u' hu=>by
  rw [List.all_cons,Bool.and_eq_true] at f
  rcases List.mem_cons.mp hu with rfl | hu
  ·rw [eqU_of r f.1]; exact eqAt_V r rx f.1 fx
  ·exact mem_eqAt rx fx t f.2 u' hu
def inV (x:V) (xs:List V):Bool:=xs.any fun y=>eqV y x
def rIn (K:PySem.W.Frag) (neg:Bool):R2:=fun x y H Q=>∃ p xs,y=.ref p∧(SqL K H p xs ∨ SqT K H p xs)∧flatV x=true∧xs.all flatV=true∧Q (.bl (if neg then !inV x xs else inV x xs)) H
theorem op_in_seq:OpR X (compareOp .In) (rIn X.K false):=by
 intro pins s σ H x y v u Q I rx ry h
 obtain ⟨p,xs,rfl,hq,fx,fs,q⟩:=h
 cases ry
 rcases hq with hq | hq
 ·obtain ⟨its,r,pl,hz⟩:=I.list hq
  refine SeqAt.in_listAt (eqU x) pl.isList (fun w hw=>mem_eqAt rx fx r fs w (by simpa using hw)) ⟨.bl _,H,I,rfl,?_⟩
  rw [show its.toArray.any (eqU x)=its.any (eqU x) by simp,any_eqU r fs]
  exact q
 ·obtain ⟨its,r,pl,hz⟩:=I.tuple hq
  refine SeqAt.in_tupleAt (eqU x) pl (fun w hw=>mem_eqAt rx fx r fs w (by simpa using hw)) ⟨.bl _,H,I,rfl,?_⟩
  rw [show its.toArray.any (eqU x)=its.any (eqU x) by simp,any_eqU r fs]
  exact q
theorem op_notIn_seq:OpR X (compareOp .NotIn) (rIn X.K true):=by
 intro pins s σ H x y v u Q I rx ry h
 obtain ⟨p,xs,rfl,hq,fx,fs,q⟩:=h
 cases ry
 rcases hq with hq | hq
 ·obtain ⟨its,r,pl,hz⟩:=I.list hq
  refine SeqAt.notIn_listAt (eqU x) pl.isList (fun w hw=>mem_eqAt rx fx r fs w (by simpa using hw)) ⟨.bl _,H,I,rfl,?_⟩
  rw [show its.toArray.any (eqU x)=its.any (eqU x) by simp,any_eqU r fs]
  exact q
 ·obtain ⟨its,r,pl,hz⟩:=I.tuple hq
  refine SeqAt.notIn_tupleAt (eqU x) pl (fun w hw=>mem_eqAt rx fx r fs w (by simpa using hw)) ⟨.bl _,H,I,rfl,?_⟩
  rw [show its.toArray.any (eqU x)=its.any (eqU x) by simp,any_eqU r fs]
  exact q
theorem call_len_seq:CallR X (.builtin "len") (fun xs H Q=>∃ p ys,xs=[.ref p]∧(SqL X.K H p ys ∨ SqT X.K H p ys)∧Q (.int ys.length) H):=by
 intro pins s σ H xs us Q I r h
 obtain ⟨p,ys,rfl,hq,q⟩:=h
 obtain ⟨u,rfl,rx⟩:=vals1 r
 cases rx
 have hn:=line63
 rcases hq with hq | hq
 ·obtain ⟨its,r',pl,hz⟩:=I.list hq
  have hlen:=r'.length
  exact Calls.call_len_list pl.isList (by simp only [List.size_toArray] <;> omega) ⟨.int ys.length,H,I.tok _,⟨s.toks + 1,by rw [List.size_toArray,hlen]⟩,q⟩
 ·obtain ⟨its,r',pl,hz⟩:=I.tuple hq
  have hlen:=r'.length
  exact len_tuple pl (by simp only [List.size_toArray] <;> omega) ⟨.int ys.length,H,I.tok _,⟨s.toks + 1,by rw [List.size_toArray,hlen]⟩,q⟩
theorem call_len_str:CallR X (.builtin "len") (fun xs H Q=>∃ z,xs=[.str z]∧z.length ≤ sizeLine∧Q (.int z.length) H):=by
 intro pins s σ H xs us Q I r h
 obtain ⟨z,rfl,hz,q⟩:=h
 obtain ⟨u,rfl,t,rfl⟩:=vals1 r
 have hn:=line63
 exact len_str (by omega) ⟨.int z.length,H,I.tok _,⟨_,rfl⟩,q⟩
theorem CallR.or {f:Value} {r r':List V→Hp→VK→Prop} (h:CallR X f r) (h':CallR X f r'):CallR X f (fun xs H Q=>r xs H Q ∨ r' xs H Q):=by
 intro pins s σ H xs us Q I rs q
 rcases q with q | q
 ·exact h pins s σ H xs us Q I rs q
 ·exact h' pins s σ H xs us Q I rs q
theorem call_list_of:CallR X (.type "list") (fun xs H Q=>∃ p ys,xs=[.ref p]∧(SqL X.K H p ys ∨ SqT X.K H p ys)∧∀ l,H l=none→Q (.ref l) (upd H l (.lst ys))):=by
 intro pins s σ H xs us Q I r h
 obtain ⟨p,ys,rfl,hq,q⟩:=h
 obtain ⟨u,rfl,rx⟩:=vals1 r
 cases rx
 have fin:∀ (its:List Value),Vals ys its→ys.length ≤ sizeLine→∀ (h':Heap) (c':Nat),(∀ b o',s.heap.get? b=some o'→h'.get? b=some o')→
   h'.get? s.heap.objs.size=some { cls:=.type "list",dict:=none,data:=.seq its.toArray c',slots:=#[] }→EP X pins σ Q (.ref s.heap.objs.size) { s with heap:=h' }:=fun its r' hz h' c' kp e=>
  ⟨.ref s.heap.objs.size,_,I.laid (t':=s.toks) kp (Nat.le_refl _) (show ObjOk X.prog X.w _ h' _ (.lst ys) from ⟨hz,its,c',r',e⟩),rfl,q _ (I.hok.fresh (Nat.le_refl _))⟩
 rcases hq with hq | hq
 ·obtain ⟨its,r',pl,hz⟩:=I.list hq
  have hlen:=r'.length
  obtain ⟨o,ho,hc,n,hd⟩:=pl.isList
  exact call_list_seq p (.inl rfl) ho hc hd (fun h' c' kp e=>fin its r' hz h' c' kp e) (by simp only [List.size_toArray] <;> omega)
 ·obtain ⟨its,r',pl,hz⟩:=I.tuple hq
  have hlen:=r'.length
  obtain ⟨o,ho,hc,n,hd⟩:=pl
  exact call_list_seq p (.inr rfl) ho hc hd (fun h' c' kp e=>fin its r' hz h' c' kp e) (by simp only [List.size_toArray] <;> omega)
def tyV (K:PySem.W.Frag) (T:String) (x:V) (H:Hp):Prop:=match x with
 | .str _=>T="str"
 | .int _=>T="int"
 | .ref p=>(T="list"∧∃ xs,SqL K H p xs) ∨ (T="tuple"∧∃ o,K.lookup p=some o∧o.cls=.type "tuple"∧o.dict=none) ∨
   (T="dict"∧((∃ kvs,H p=some (.dK kvs)) ∨ ∃ kvs,H p=some (.dT kvs))) ∨ (T="set"∧∃ S n,H p=some (.set S n))
 | _=>False
theorem tyV_is {pins:List (Addr × Obj)} {σ:St} {H:Hp} {s:Shared} {T:String} {x:V} {v:Value} (I:Inv X pins σ H s) (r:RelV x v) (ty:tyV X.K T x H):
  s.TypeIs v T∧∀ a,v=.ref a→∃ ob,s.heap.get? a=some ob∧ob.dict=none:=by
 cases x with
 | str z=>
  obtain ⟨t,rfl⟩:=r
  cases (show T="str" from ty)
  exact ⟨typeIs_str s z t,fun _ e=>nomatch e⟩
 | int i=>
  obtain ⟨t,rfl⟩:=r
  cases (show T="int" from ty)
  exact ⟨typeIs_int s i t,fun _ e=>nomatch e⟩
 | ref p=>
  cases r
  rcases ty with ⟨rfl,xs,hq⟩ | ⟨rfl,o,hk,hc,hd⟩ | ⟨rfl,hk⟩ | ⟨rfl,S,n,hk⟩
  ·obtain ⟨its,_,pl,_⟩:=I.list hq
   refine ⟨pl.isList.typeIs,fun a e=>?_⟩
   cases e
   obtain ⟨o,n,e,c,hd,_⟩:=pl
   exact ⟨o,e,hd⟩
  ·refine ⟨⟨o,I.kIn p o hk,hc⟩,fun a e=>?_⟩
   cases e
   exact ⟨o,I.kIn _ o hk,hd⟩
  ·have z:∃ o,s.heap.get? p=some o∧o.ExactDict:=by
    rcases hk with ⟨kvs,hk⟩ | ⟨kvs,hk⟩
    ·obtain ⟨_,_,_,_,o,_,_,e,ex,_⟩:=I.hok p _ hk
     exact ⟨o,e,ex⟩
    ·obtain ⟨_,_,_,_,o,_,_,e,ex,_⟩:=I.hok p _ hk
     exact ⟨o,e,ex⟩
   obtain ⟨o,e,ex⟩:=z
   refine ⟨⟨o,e,ex.1⟩,fun a e2=>?_⟩
   cases e2
   exact ⟨o,e,ex.2.1⟩
  ·obtain ⟨o,_,_,_,e,ex,_⟩:=I.hok p _ hk
   refine ⟨⟨o,e,ex.1⟩,fun a e2=>?_⟩
   cases e2
   exact ⟨o,e,ex.2.1⟩
 | _=>exact False.elim ty
def tBM0 (K:PySem.W.Frag) (T:String) (r:V→List V→Hp→VK→Prop) (to:TE):TE:=fun σ H Q=>to σ H fun x H1=>tyV K T x H1∧r x [] H1 Q
def tBM (K:PySem.W.Frag) (T:String) (r:V→List V→Hp→VK→Prop) (to:TE) (t:TA):TE:=fun σ H Q=>to σ H fun x H1=>tyV K T x H1∧t σ H1 fun xs H2=>r x xs H2 Q
variable {o e : Expr} {es : List Expr} {to : TE} {t : TA} {name : Str} {apos cpos : Pos} {T id : String} {r : V → List V → Hp → VK → Prop}
theorem pe_bm0 (pa:PlainAttrs T) (slot:Slot T name id) (hty:typeOf (.builtin id)=pure (.type "method_descriptor")) (hm:MtR X id r) (ho:PE X o to)
  (hbase:attributeBase o name X.env (eval o X.env)=eval o X.env:=by rfl) (hline:(apos.endLine == cpos.line)=true:=by rfl):PE X (.Call (.Attribute o name apos) [] [] cpos) (tBM0 X.K T r to):=by
 intro pins s σ H Q I h
 refine wpAny_Call_method0_late hbase hline (thn (ho pins s σ H _ I h) fun v s1 ⟨x,H1,I1,r1,ty,q1⟩=>?_)
 obtain ⟨h1,h2⟩:=tyV_is I1 r1 ty
 exact ⟨T,id,pa,slot,hty,h1,h2,Calls.callWith_builtin rfl (PySem.evalArgs_none (hm pins s1 σ H1 x [] v [] Q I1 r1 .nil q1))⟩
theorem pe_bm (pa:PlainAttrs T) (slot:Slot T name id) (hty:typeOf (.builtin id)=pure (.type "method_descriptor")) (hm:MtR X id r) (ho:PE X o to) (ha:PA X (e :: es) t)
  (hbase:attributeBase o name X.env (eval o X.env)=eval o X.env:=by rfl)
  (hfew:((backTo cpos (starEach (e :: es) X.env)).all (fun x=>!x.1) && (backToKw cpos (keywordEach [] X.env)).all (fun x=>x.1.isSome)
   && decide ((e :: es).length + ([]:List Keyword).length + (if ([]:List Keyword).isEmpty then 0 else 1) < 30))=true:=by rfl)
  (hline:(apos.endLine == cpos.line)=true:=by rfl) (hs:starEach (e :: es) X.env=(false,eval e X.env) :: starEach es X.env:=by rfl) (hplain:(backTo cpos (starEach es X.env)).any (·.1)=false:=by rfl):
  PE X (.Call (.Attribute o name apos) (e :: es) [] cpos) (tBM X.K T r to t):=by
 intro pins s σ H Q I h
 refine wpAny_Call_method_late hbase hfew hline rfl (thn (ho pins s σ H _ I h) fun v s1 ⟨x,H1,I1,r1,ty,q1⟩=>?_)
 obtain ⟨h1,h2⟩:=tyV_is I1 r1 ty
 refine ⟨T,id,pa,slot,hty,h1,h2,?_⟩
 have hA:=ha cpos pins s1 σ H1 _ I1 q1
 rw [hs] at hA ⊢
 refine Calls.callWith_builtin (by show (false || (backTo cpos (starEach es X.env)).any (·.1))=false; rw [hplain] <;> rfl) (Calls.evalArgs_plain ?_)
 exact thn hA fun us s2 ⟨vs,H2,I2,r2,q2⟩=>hm pins s2 σ H2 x vs v us Q I2 r1 r2 q2
end
end L2
namespace L2
open PySem PySem.Spec PyProof.Rows
def MtM (X:Cx) (id:String) (r:V→List V→Hp→VK→Prop):Prop:=
 ∀ (pins:List (Addr × Obj)) (s:Shared) (σ:St) (H:Hp) (x:V) (xs:List V) (v:Value) (us:List Value) (Q:VK),Inv X pins σ H s→RelV x v→Vals xs us→r x xs H Q→
  wpAny (model X.prog X.w) X.A (call (.builtin id) (v :: us)) (EP X pins σ Q) X.xe s
theorem Vals.one:∀ {x:V} {us:List Value},Vals [x] us→∃ u,us=[u]∧RelV x u
 | _,_,.cons r .nil=>⟨_,rfl,r⟩
theorem Vals.two:∀ {x y:V} {us:List Value},Vals [x,y] us→∃ u v,us=[u,v]∧RelV x u∧RelV y v
 | _,_,_,.cons r (.cons q .nil)=>⟨_,_,rfl,r,q⟩
theorem Vals.zero:∀ {us:List Value},Vals [] us→us=[]
 | _,.nil=>rfl
theorem Vals.dropLast {xs:List V} {us:List Value} (h:Vals xs us):Vals xs.dropLast us.dropLast:=by
 induction h with
 | nil=>exact .nil
 | cons r t ih=>
  cases t with
  | nil=>exact .nil
  | cons q t'=>exact .cons r ih
theorem Vals.eraseIdx:∀ {xs:List V} {us:List Value} (i:Nat),Vals xs us→Vals (xs.eraseIdx i) (us.eraseIdx i)
 | _,_,_,.nil=>.nil
 | _,_,0,.cons _ t=>t
 | _,_,i + 1,.cons r t=>.cons r (Vals.eraseIdx i t)
theorem Vals.reverse {xs:List V} {us:List Value} (h:Vals xs us):Vals xs.reverse us.reverse:=by
 induction h with
 | nil=>exact .nil
 | cons r t ih=>rw [List.reverse_cons,List.reverse_cons]; exact Vals.append ih (.cons r .nil)
theorem erase_last {α:Type} (l:List α):l.eraseIdx (l.length - 1)=l.dropLast:=by
 induction l with
 | nil=>rfl
 | cons a r ih=>
  cases r with
  | nil=>rfl
  | cons b r=>
   have e:(a :: b :: r).length - 1=((b :: r).length - 1) + 1:=by
    have h1:(a :: b :: r).length=r.length + 2:=rfl
    have h2:(b :: r).length=r.length + 1:=rfl
    omega
   rw [e,List.eraseIdx_cons_succ,ih]
   all_goals rfl
theorem len_erase {α:Type}:∀ (l:List α) (i:Nat),(l.eraseIdx i).length ≤ l.length
 | [],_=>Nat.le_refl _
 | _ :: _,0=>Nat.le_succ _
 | _ :: r,i + 1=>Nat.succ_le_succ (len_erase r i)
section
variable {X : Cx} {pins : List (Addr × Obj)} {σ : St} {H : Hp} {s : Shared} {l b : Addr} {xs ys zs : List V}
theorem Inv.lset {its its':List Value} {n:Nat} {f:Array Value→Array Value} {t':Nat} (I:Inv X pins σ H s) (hH:H l=some (.lst xs))
  (e:s.heap.get? l=some { cls:=.type "list",data:=.seq its.toArray n }) (hf:f its.toArray=its'.toArray) (hv:Vals ys its') (hz:ys.length ≤ sizeLine):
  Inv X pins σ (upd H l (.lst ys)) { s with heap:=s.heap.update l (Obj.mapSeq f),toks:=t' }:=by
 have q:=PySem.IsL.update e f
 rw [hf] at q
 refine I.write (x:=l) (e:=l) (by rw [hH]; exact trivial) (.inl rfl) (fun b' u hb hu=>(Heap.get?_update_other s.heap (Obj.mapSeq f) (Ne.symm hb)).trans hu) ⟨_,q⟩ ?_
 exact ⟨hz,its',_,hv,q⟩
theorem Inv.lnew {its:List Value} {t':Nat} (I:Inv X pins σ H s) (hv:Vals ys its) (hz:ys.length ≤ sizeLine):
  Inv X pins σ (upd H s.heap.objs.size (.lst ys)) { s with heap:=s.heap.push { cls:=.type "list",data:=.seq its.toArray },toks:=t' }:=
 I.laid (fun _ _ q=>Heap.get?_push_of_some _ q) (Nat.le_refl _) ⟨hz,its,0,hv,Heap.get?_push_size _ rfl⟩
theorem Inv.fresh (I:Inv X pins σ H s):H s.heap.objs.size=none:=I.hok.fresh (Nat.le_refl _)
theorem Inv.lstM (I:Inv X pins σ H s) (hH:H l=some (.lst xs)):xs.length ≤ sizeLine∧∃ (its:List Value) (n:Nat),Vals xs its∧xs.length=its.length∧s.heap.get? l=some { cls:=.type "list",data:=.seq its.toArray n }:=by
 obtain ⟨z,its,n,r,e⟩:=I.hok l _ hH
 exact ⟨z,its,n,r,r.length,e⟩
end
section
variable {X : Cx}
def rAppend:V→List V→Hp→VK→Prop:=fun x vs H Q=>∃ l xs y,x=.ref l∧vs=[y]∧H l=some (.lst xs)∧xs.length < sizeLine∧Q .non (upd H l (.lst (xs ++ [y])))
theorem mt_append:MtM X "list.append" rAppend:=by
 intro pins s σ H x vs v us Q I rx rv h
 obtain ⟨l,xs,y,rfl,rfl,hH,hz,q⟩:=h
 cases rx
 obtain ⟨u,rfl,ru⟩:=rv.one
 obtain ⟨z,its,n,r,hl,e⟩:=I.lstM hH
 refine call_meets F.slot_list_append ⟨_,e,rfl⟩ F.entry_list_append (F.args_list_append_2 _ _) (PySem.list_append l its.toArray n u (by rw [List.size_toArray]; omega)) ⟨e,?_⟩
 refine ⟨.non,_,I.lset (its':=its ++ [u]) hH e (by simp) (r.append (.cons ru .nil)) ?_,rfl,q⟩
 rw [List.length_append,List.length_singleton]
 omega
def rPop:V→List V→Hp→VK→Prop:=fun x vs H Q=>∃ l xs y,x=.ref l∧vs=[]∧H l=some (.lst xs)∧xs[xs.length - 1]?=some y∧Q y (upd H l (.lst xs.dropLast))
theorem mt_pop:MtM X "list.pop" rPop:=by
 intro pins s σ H x vs v us Q I rx rv h
 obtain ⟨l,xs,y,rfl,rfl,hH,hy,q⟩:=h
 cases rx
 have hus:=rv.zero
 subst hus
 obtain ⟨z,its,n,r,hl,e⟩:=I.lstM hH
 obtain ⟨u,hu,ru⟩:=r.get hy
 have hy':its.toArray[its.toArray.size - 1]?=some u:=by
  show its.toArray[its.length - 1]?=some u
  rw [← Array.getElem?_toList,← hl]
  exact hu
 refine call_meets F.slot_list_pop ⟨_,e,rfl⟩ F.entry_list_pop (F.args_list_pop_1 _) (MeetsSeq.list_pop_last l its.toArray n u hy' (by rw [List.size_toArray]; omega)) ⟨e,?_⟩
 refine ⟨y,_,I.lset (its':=its.dropLast) hH e ?_ r.dropLast ?_,ru,q⟩
 ·show its.toArray.eraseIdxIfInBounds (its.toArray.size - 1)=its.dropLast.toArray
  rw [List.size_toArray,List.eraseIdxIfInBounds_toArray,erase_last]
 ·rw [List.length_dropLast]
  omega
def rPopAt:V→List V→Hp→VK→Prop:=fun x vs H Q=>∃ l xs i k y,x=.ref l∧vs=[.int i]∧H l=some (.lst xs)∧-(2 ^ 63) ≤ i∧i < 2 ^ 63∧seqIndex? i xs.length=some k∧xs[k]?=some y∧Q y (upd H l (.lst (xs.eraseIdx k)))
theorem mt_popAt:MtM X "list.pop" rPopAt:=by
 intro pins s σ H x vs v us Q I rx rv h
 obtain ⟨l,xs,i,k,y,rfl,rfl,hH,h1,h2,hk,hy,q⟩:=h
 cases rx
 obtain ⟨u,rfl,ru⟩:=rv.one
 obtain ⟨t,rfl⟩:=ru
 obtain ⟨z,its,n,r,hl,e⟩:=I.lstM hH
 obtain ⟨w,hw,rw'⟩:=r.get hy
 refine call_meets F.slot_list_pop ⟨_,e,rfl⟩ F.entry_list_pop (F.args_list_pop_2 _ _)
  (MeetsSeq.list_pop_at l its.toArray n i t k w (fitsIndex_both h1 h2) (by rw [List.size_toArray,← hl]; exact hk) (by rw [← Array.getElem?_toList]; exact hw) (by rw [List.size_toArray]; omega)) ⟨e,?_⟩
 refine ⟨y,_,I.lset (its':=its.eraseIdx k) hH e ?_ (r.eraseIdx k) ?_,rw',q⟩
 ·show its.toArray.eraseIdxIfInBounds k=(its.eraseIdx k).toArray
  rw [List.eraseIdxIfInBounds_toArray]
 ·have:=len_erase xs k
  omega
def rClear:V→List V→Hp→VK→Prop:=fun x vs H Q=>∃ l xs,x=.ref l∧vs=[]∧H l=some (.lst xs)∧Q .non (upd H l (.lst []))
theorem mt_clear:MtM X "list.clear" rClear:=by
 intro pins s σ H x vs v us Q I rx rv h
 obtain ⟨l,xs,rfl,rfl,hH,q⟩:=h
 cases rx
 have hus:=rv.zero
 subst hus
 obtain ⟨z,its,n,r,hl,e⟩:=I.lstM hH
 refine call_meets F.slot_list_clear ⟨_,e,rfl⟩ F.entry_list_clear (F.args_list_clear_1 _) (AutoSeq1.list_clear_list_0 l its.toArray n (by rw [List.size_toArray]; omega)) ⟨e,?_⟩
 exact ⟨.non,_,I.lset (its':=[]) (ys:=[]) hH e rfl .nil (Nat.zero_le _),rfl,q⟩
def rCat:R2:=fun x y H Q=>∃ l b xs zs,x=.ref l∧y=.ref b∧H l=some (.lst xs)∧H b=some (.lst zs)∧xs.length + zs.length ≤ sizeLine∧∀ p,H p=none→Q (.ref p) (upd H p (.lst (xs ++ zs)))
theorem op_cat:OpR X (binaryOp .Add) rCat:=by
 intro pins s σ H x y v u Q I rx ry h
 obtain ⟨l,b,xs,zs,rfl,rfl,hH,hB,hz,q⟩:=h
 cases rx
 cases ry
 obtain ⟨z,its,n,r,hl,e⟩:=I.lstM hH
 obtain ⟨z2,its2,n2,r2,hl2,e2⟩:=I.lstM hB
 refine PySem.P.add_list e e2 ?_ (by rw [List.size_toArray,List.size_toArray]; omega)
 have ea:its.toArray ++ its2.toArray=(its ++ its2).toArray:=by simp
 rw [ea]
 exact ⟨.ref _,_,I.lnew (t':=s.toks) (r.append r2) (by rw [List.length_append]; omega),rfl,q _ I.fresh⟩
end
section
variable {prog : Program} {w : World} {A : Around} {E : Value → Shared → Prop} {s : Shared}
end
section
variable {X : Cx}
end
end L2
namespace Att
open PySem PySem.W PySem.Calls PyProof.Rows
theorem ints_of_wellAll {P:Params} {h:Heap}:∀ (ns:List Int) (vs:List Value),WellAll P h vs (ns.map WData.int)→IntsAre vs ns:=by
 intro ns
 induction ns with
 | nil=>
  intro vs w
  rw [List.map_nil] at w
  cases w
  exact .nil
 | cons n ns ih=>
  intro vs w
  rw [List.map_cons] at w
  cases w with
  | cons a b=>
   cases a
   exact .cons _ _ (ih _ b)
theorem script_of {l:OpenLaw} {n:Nat} (hn:l.most=some n) {P:Params} {h:Heap} {args:List WData} {vals:List Value}
  (hpre:l.row.toRowW.claim.pre args=true) (hwl:WellAll P h vals args):
  ∃ a vs ns,vals=[Value.ref a]∧args=[WData.list (ns.map WData.int)]∧h.get? a=some { cls:=.type "list",data:=.seq vs.toArray }∧IntsAre vs ns∧ns.length ≤ n:=by
 have hsh:WShape.hasAll [] args [.list .int]=true:=(pre_splitW hpre).1
 have hc:l.pre.holds [] { args:=args }=true:=(pre_splitW hpre).2
 obtain ⟨d,r,rfl,h1,h2⟩:=hasAllW_cons hsh
 obtain rfl:=hasAllW_nil h2
 obtain ⟨xs,rfl,h3⟩:=hasW_list h1
 obtain ⟨ns,rfl⟩:=items_int h3
 have hlen:ns.length ≤ n:=by
  unfold OpenLaw.pre at hc
  have h4:(WTm.not (.lt (.lit (.int (n:Int))) (.len (.arg 0)))).holds [] { args:=[.list (ns.map .int)] }=true:=by
   have h4:=(holds_andW hc).1
   rw [hn] at h4
   exact h4
  have h5:=condW_of h4 (w_not (w_lt w_lit (w_len_list (w_arg rfl))))
  rw [List.length_map] at h5
  refine Nat.le_of_not_lt fun q=>?_
  have q':(n:Int) < ((ns.length:Nat):Int):=by omega
  first
   | (rw [decide_eq_true q'] at h5; exact absurd h5 (by decide))
   | (simp at h5; omega)
 cases hwl with
 | cons w1 w2=>
  cases w2
  cases w1 with
  | list ho hall=>exact ⟨_,_,ns,rfl,rfl,ho,ints_of_wellAll ns _ hall,hlen⟩
theorem post_true (l:OpenLaw) (args:List WData):l.row.toRowW.claim.post args (.bool true) args=true:=
 postW_of (r:=l.row.toRowW) (X:=(true == true))
  (show WShape.has [] (.bool true) .bool=true by first | rfl | decide | simp [WShape.has,WShape.arms,WShape.armsAll])
  (show (WTm.eq .res (.lit (.bool true))).value [] { args:=args,res:=some (.bool true),after:=args }=some (.bool (true == true)) from w_eq_bool (w_res rfl) w_lit) rfl
theorem attach_call {l:OpenLaw} {n:Nat} {q:Program} {loose:List Str} {XP:(Str→Option Value)→Heap→Prop} {YP:World→Heap→Prop} {d:DefRec}
  (hn:l.most=some n) (hdf:d.params.defaults=[])
  (call:∀ (w:World) (s₀ s₁:Shared) (mg mb:Str→Option Value) (fa:Addr) (o:Obj) (pm cd doc:Value) (a:Addr) (vs:List Value) (ns:List Int),
   Ground q loose [] XP w s₀ mg mb s₁.heap→YP w s₁.heap→
   s₁.heap.get? fa=some o→o.data=.func (docDef d.name d.params d.body d.scope pm cd doc)→s₁.heap.CodeRec cd d.name→mg d.name=some (.ref fa)→
   s₁.heap.get? a=some { cls:=.type "list",data:=.seq vs.toArray }→IntsAre vs ns→ns.length ≤ n→s₁.gens=#[]→
   codeAny (model l.prog w) callerA (.call (.ref fa) ⟨[.ref a],[]⟩) (fun r s'=>r=.ok (.ret (.bool true))∧OldK s₁.heap s'.heap∧s'.os=s₁.os∧AllBare s'.gens) s₁):
  WalkO q loose XP YP l.row.toRowW d [] (fun f vs=>PySem.call f vs):=by
 intro w s₀ s₁ mg mb G Y fa o pm cd doc dV kV ho hd hcd hD hmg hg args vals as hpre hlay hrd hwl hlo
 obtain rfl:dV=.none:=Dflts.none hD hdf
 obtain rfl:kV=.none:=Dflts.noKw hD
 obtain ⟨a,vs,ns,rfl,rfl,hobj,hints,hlen⟩:=script_of hn hpre hwl
 refine enter_call (codeAny_mono (call w s₀ s₁ mg mb fa o pm cd doc a vs ns G Y ho (fd_plain hd) hcd hmg hobj hints hlen hg) fun r s' hq=>?_)
 obtain ⟨rfl,h2,h3,h4⟩:=hq
 exact ⟨.inl ⟨.bool true,.bool true,[],rfl,fun _=>rfl,.bool true,post_true l _,fun _=>⟨List.Pairwise.nil,fun _ hm=>(nomatch hm)⟩⟩,h2,h3,h4⟩
section
variable {prog : Program} {w : World} {A : Around} {E : Value → Shared → Prop} {s : Shared} {K : Frag}
end
end Att
namespace L2
open PySem PySem.Spec PyProof.Rows
theorem vals_ints:∀ {vs:List Value} {ns:List Int},IntsAre vs ns→Vals (ns.map V.int) vs
 | _,_,.nil=>.nil
 | _,_,.cons n t h=>.cons ⟨t,rfl⟩ (vals_ints h)
def Only (H:Hp):Prop:=∀ b,H b=none ∨ ∃ o xs,H b=some (.frz o (.lst xs))
theorem law_call {P:Program} {w:World} {K:PySem.W.Frag} {mg mb:Str→Option Value} {CX:CXT} {k:Nat} {fa a:Addr} {fd:FuncData} {x:Str} {sp:Sp} {s₁:Shared} {vs:List Value} {ns:List Int}
  (KX:K.In s₁.heap) (hns:s₁.heap.Ns mainGlobals mg) (hb:s₁.heap.Ns builtinsNs mb) (hbb:∀ x:Str,x ≠ "__name__"→mb x=bootBuiltins x) (hlim:s₁.heap.NoLimit) (hg:s₁.gens=#[])
  (ha:s₁.heap.get? a=some { cls:=.type "list",data:=.seq vs.toArray }) (hi:IntsAre vs ns) (hl:ns.length ≤ sizeLine) (hr:Room k callerA)
  (F:∀ base:Heap,K.In base→base.Ns mainGlobals mg→FnOk P w K mg base CX k fa fd [x] sp) (hbind:∀ (s:Shared) (u:Value),BindsTo s fd ⟨[u],[]⟩ [(x,u)])
  (hsp:∀ H:Hp,Only H→SqL K H a (ns.map V.int)→sp [.ref a] H (fun v _=>v=.bl true) fun _ _ _=>False)
  (hCX:∀ H e s',CX [] H s₁ (fun _ _ _=>False) e s'→False):
  codeAny (model P w) callerA (.call (.ref fa) ⟨[.ref a],[]⟩) (fun r s'=>r=.ok (.ret (.bool true))∧OldK s₁.heap s'.heap∧s'.os=s₁.os∧AllBare s'.gens) s₁:=by
 have rv:=vals_ints hi
 have lenV:=hi.length
 have core:∀ H:Hp,Only H→SqL K H a (ns.map V.int)→HOk P w H s₁.heap→(∀ b,H b ≠ none→b=a)→(H a ≠ none→K.lookup a=none)→
   codeAny (model P w) callerA (.call (.ref fa) ⟨[.ref a],[]⟩) (fun r s'=>r=.ok (.ret (.bool true))∧OldK s₁.heap s'.heap∧s'.os=s₁.os∧AllBare s'.gens) s₁:=by
  intro H hO hS hok hA hK
  have base_of:∀ {b:Addr} {o:Obj},s₁.heap.get? b=some o→H b=none→(hidT s₁.heap H).get? b=some o:=fun e n=>hidT_get e n
  have noA:∀ {b:Addr} {o:Obj} {es:Array DictEntry} {ep:Nat},s₁.heap.get? b=some o→o.data=.dict es ep→H b=none:=fun {b o es ep} e d=>by
   cases q:H b with
   | none=>rfl
   | some u=>
    have e':b=a:=hA b (by rw [q]; simp)
    subst e'
    rw [ha] at e; cases e
    have d':Data.seq vs.toArray _=Data.dict es ep:=d
    cases d'
  have nsK:∀ {b:Addr} {m:Str→Option Value},s₁.heap.Ns b m→(hidT s₁.heap H).Ns b m:=fun {b m} ⟨o,es,ep,e,d,r⟩=>⟨o,es,ep,base_of e (noA e d),d,r⟩
  have hKb:K.In (hidT s₁.heap H):=fun b o e=>base_of (KX b o e) (by
   cases q:H b with
   | none=>rfl
   | some u=>
    have e':b=a:=hA b (by rw [q]; simp)
    subst e'
    rw [hK (by rw [q]; simp)] at e; cases e)
  have hM:Mod K mg (hidT s₁.heap H):=⟨hKb,nsK hns,⟨mb,nsK hb,hbb⟩,let ⟨mc,h1,h2⟩:=hlim; ⟨mc,nsK h1,h2⟩⟩
  have e0:Env0 P w K mg (hidT s₁.heap H) callerA [] s₁ H:=⟨rfl,hM,fun b o e=>of_hidT e,Nat.le_of_eq (hidT_size _ _),trivial,fun b hb=>absurd (show b ∈ ([]:List Addr) from hb) (by simp),hok,.of_eq hg⟩
  refine codeAny_mono ((F _ hKb (nsK hns)).run callerA [] s₁ H ⟨[.ref a],[]⟩ [.ref a] [.ref a] _ _ hr e0 (hbind s₁ (.ref a)) (.cons rfl .nil) (hsp H hO hS)) fun r s' h=>?_
  cases r with
  | error e=>exact (hCX H e s' h).elim
  | ok fl=>
   cases fl with
   | next=>exact False.elim h
   | brk=>exact False.elim h
   | cont=>exact False.elim h
   | ret u=>
    obtain ⟨v,H',os,bare,un,hok',r',q⟩:=h
    have q':v=.bl true:=q
    subst q'
    obtain rfl:u=Value.bool true:=r'
    refine ⟨rfl,OldK.of_keep fun b o e=>?_,os,bare⟩
    cases q:H b with
    | none=>exact un.keep b o e q (by intro z; exact absurd (show b ∈ ([]:List Addr) from z) (by simp)) (by simp)
    | some u=>
     rcases hO b with z | ⟨ob,xs,z⟩
     ·rw [q] at z; cases z
     ·have z2:=un.frzs b ob _ z
      obtain ⟨e1,_⟩:=hok b _ z
      obtain ⟨e2,_⟩:=hok' b _ z2
      rw [e] at e1; cases e1
      exact e2
 cases hk:K.lookup a with
 | some o=>
  have e:=KX a o hk
  rw [ha] at e
  cases e
  refine core (fun _=>none) (fun _=>.inl rfl) (.inr ⟨_,vs.toArray,_,hk,rfl,rfl,rfl,by rw [List.size_toArray,lenV]; exact hl,by simpa using rv⟩) (fun b u z=>by have z':(none:Option HO)=some u:=z; cases z') (fun b z=>absurd rfl z) fun z=>absurd rfl z
 | none=>
  refine core (fun b=>if b=a then some (.frz { cls:=.type "list",data:=.seq vs.toArray } (.lst (ns.map V.int))) else none) (fun b=>?_) (.inl (.inr ⟨{ cls:=.type "list",data:=.seq vs.toArray },if_pos rfl⟩)) (fun b u z=>?_) (fun b z=>?_) fun _=>hk
  ·by_cases hb:b=a
   ·exact .inr ⟨_,_,if_pos hb⟩
   ·exact .inl (if_neg hb)
  ·by_cases hb:b=a
   ·have z':=(if_pos hb).symm.trans z
    cases z'
    subst hb
    exact ⟨ha,by rw [List.length_map]; exact hl,vs,_,rv,ha⟩
   ·have z':=(if_neg hb).symm.trans z
    cases z'
  ·by_cases hb:b=a
   ·exact hb
   ·exact absurd (if_neg hb) z
end L2
namespace L2
open PySem PySem.Spec PyProof.Rows
theorem walk_of {l:PySem.W.OpenLaw} {n k:Nat} {q:Program} {loose:List Str} {XP:(Str→Option Value)→Heap→Prop} {YP:World→Heap→Prop} {d:DefRec} {K:Params→PySem.W.Frag} {CX:World→CXT} {sp:World→Sp} {x:Str}
  (hn:l.most=some n) (hn2:n ≤ sizeLine) (hdf:d.params.defaults=[]) (hr:Room k callerA)
  (hY:∀ (w:World) (h:Heap),YP w h→(K w.params).In h)
  (F:∀ (w:World) (mg:Str→Option Value) (fa:Addr) (h:Heap),(K w.params).In h→h.Ns mainGlobals mg→mg d.name=some (.ref fa)→
   ∃ fd:FuncData,(∀ (s:Shared) (u:Value),BindsTo s fd ⟨[u],[]⟩ [(x,u)])∧
    ∀ base:Heap,(K w.params).In base→base.Ns mainGlobals mg→FnOk l.prog w (K w.params) mg base (CX w) k fa fd [x] (sp w))
  (hsp:∀ (w:World) (H:Hp) (a:Addr) (ns:List Int),ns.length ≤ n→Only H→SqL (K w.params) H a (ns.map V.int)→sp w [.ref a] H (fun v _=>v=.bl true) fun _ _ _=>False)
  (hCX:∀ (w:World) (H:Hp) (s:Shared) (e:Value) (s':Shared),CX w [] H s (fun _ _ _=>False) e s'→False):
  PySem.W.WalkO q loose XP YP l.row.toRowW d [] (fun f vs=>PySem.call f vs):=by
 refine Att.attach_call hn hdf fun w s₀ s₁ mg mb fa o pm cd doc a vs ns G Y ho hd hcd hmg hobj hints hlen hg=>?_
 have KX:=hY w _ Y
 obtain ⟨fd,hb,hF⟩:=F w mg fa _ KX G.T.g hmg
 exact law_call KX G.T.g G.T.b G.T.builtins G.T.nolimit hg hobj hints (Nat.le_trans hlen hn2) hr hF hb (fun H hO hS=>hsp w H a ns hlen hO hS) fun H e s'=>hCX w H s₁ e s'
end L2
namespace L2
open PySem PySem.Spec PyProof.Rows
def inClass (s:Stmt) (j:Nat):Stmt:=match s with
 | .ClassDef _ _ _ body _ _ _ _ _ _ _=>body.getD j (.Pass ⟨0,0,0,0⟩)
 | _=>.Pass ⟨0,0,0,0⟩
def defArgs (s:Stmt):Arguments:=match s with
 | .FunctionDef _ a _ _ _ _ _ _ _ _=>a
 | _=>{ posonlyargs:=[],args:=[],vararg:=none,kwonlyargs:=[],kw_defaults:=[],kwarg:=none,defaults:=[] }
def defBody (s:Stmt):List Stmt:=match s with
 | .FunctionDef _ _ b _ _ _ _ _ _ _=>b
 | _=>[]
def defScope (s:Stmt):Scope:=match s with
 | .FunctionDef _ _ _ _ _ _ sc _ _ _=>sc
 | _=>{ kind:=.function,names:=[],isGenerator:=false,isCoroutine:=false }
abbrev CX0:CXT:=fun _ _ _ _ _ _=>False
abbrev E0:XK:=fun _ _ _=>False
theorem pass0 {X:Cx}:Passes CX0 X E0:=fun _ _ _ _ _ _ _ h=>h.elim
structure Fun (K : PySem.W.Frag) (x qual : Str) (st : Stmt) (f : Addr) (fd : FuncData) : Prop where
  ex : ∃ (oc : Value) (od : Option Addr) (kV doc pm : Value) (an : Option Addr) (cdv ct : Value) (osl : Array (Option Value)),
    fd = PySem.W.fnOf x qual (defArgs st) (defBody st) (defScope st) .none kV doc pm an cdv ct ∧ K.lookup f = some ⟨oc, od, .func fd, osl⟩ ∧ PySem.W.codeIn K cdv qual = true
  kp : PySem.W.keepIn K (.ref f) = true
section
variable {P : Program} {w : World} {K : PySem.W.Frag} {mg : Str → Option Value} {base : Heap}
theorem Fun.ok {x qual:Str} {st:Stmt} {f:Addr} {fd:FuncData} {N ps:List Str} {k:Nat} {sp:Sp} (F:Fun K x qual st f fd) (S:FnScope N ps (defScope st)) (len:∀ vs H Q E,sp vs H Q E→vs.length=ps.length)
  (hbody:∀ (cdv:Value) (A:Around) (outer:List Env) (s:Shared) (H:Hp) (vs:List V) (Q:VK) (E:XK),Room k (A.deeper (envOfC qual (defScope st) s.heap.objs.size f cdv))→sp vs H Q E→
   ∃ t,PSs (cxOf CX0 P w K mg base N qual (defScope st) f cdv A outer s H E).nox (defBody st) t∧t { nx:=fun _ H'=>Q .non H',rt:=Q } (start N vs) H):FnOk P w K mg base CX0 (k + 1) f fd ps sp:=by
 obtain ⟨oc,od,kV,doc,pm,an,cdv,ct,osl,rfl,lk,hcd⟩:=F.ex
 refine fn_of lk hcd S len fun A outer s H vs Q E hr hsp=>?_
 obtain ⟨t,h,q⟩:=hbody cdv A outer s H vs Q E hr hsp
 exact ⟨t,h.nox,q⟩
theorem Fun.binds {x qual:Str} {st:Stmt} {f:Addr} {fd:FuncData} {ps:List Str} (F:Fun K x qual st f fd)
  (h:∀ (kV doc pm:Value) (an:Option Addr) (cdv ct:Value) (us:List Value),us.length=ps.length→bindArgs (PySem.W.fnOf x qual (defArgs st) (defBody st) (defScope st) .none kV doc pm an cdv ct) ⟨us,[]⟩=pure (ps.zip us)):Binds K fd ps []:=by
 obtain ⟨oc,od,kV,doc,pm,an,cdv,ct,osl,rfl,lk,hcd⟩:=F.ex
 exact .all (h kV doc pm an cdv ct)
theorem fun_mk {x qual:Str} {st:Stmt} {f:Addr} {oc:Value} {od an:Option Addr} {osl:Array (Option Value)} {kV doc pm cdv ct:Value} (l:K.lookup f=some ⟨oc,od,.func (PySem.W.fnOf x qual (defArgs st) (defBody st) (defScope st) .none kV doc pm an cdv ct),osl⟩)
  (c:PySem.W.codeIn K cdv qual=true) (k:PySem.W.keepIn K (.ref f)=true):Fun K x qual st f (PySem.W.fnOf x qual (defArgs st) (defBody st) (defScope st) .none kV doc pm an cdv ct):=⟨⟨oc,od,kV,doc,pm,an,cdv,ct,osl,rfl,l,c⟩,k⟩
end
theorem hu_of {A:Around} {k:Nat} (hr:Room k A):A.units + 1 < cLine:=Nat.lt_of_le_of_lt (Nat.add_le_add_left (by decide:1 ≤ 64) _) hr.units
section
variable {X : Cx}
theorem pv (i:Nat) {x:Str} {pos:Pos} (hN:X.N[i]?=some x:=by rfl) (hv:Vis X.env.scope x:=by first | exact Or.inl rfl | exact Or.inr (Or.inl rfl) | exact Or.inr (Or.inr rfl)) (hd:(x == ("__debug__":Str))=false:=by decide)
  (hcd:(x == ("__classdict__":Str))=false:=by decide):PE X (.Name x pos) (tVar i):=pe_var hN hv hd hcd
end
theorem iteF {A B:Prop} (h:B):if false=true then A else B:=by
 rw [if_neg Bool.false_ne_true]
 exact h
theorem iteT {A B:Prop} (h:A):if true=true then A else B:=by
 rw [if_pos rfl]
 exact h
theorem ite2 {c A B:Prop} [Decidable c] (h1:c→A) (h2:¬ c→B):if c then A else B:=by
 by_cases h:c
 ·rw [if_pos h]
  exact h1 h
 ·rw [if_neg h]
  exact h2 h
theorem iteNS {c A B:Prop} [Decidable c] (hc:c) (h:B):if (!decide c)=true then A else B:=by
 rw [decide_eq_true hc]
 exact iteF h
def Same (H H':Hp):Prop:=∀ b o,H b=some o→H' b=some o
theorem Same.refl (H:Hp):Same H H:=fun _ _ h=>h
theorem Same.trans {H H1 H2:Hp} (a:Same H H1) (b:Same H1 H2):Same H H2:=fun c o h=>b c o (a c o h)
theorem Same.free {H H':Hp} (e:Same H H') {l:Addr} (h:H' l=Option.none):H l=Option.none:=by
 cases q:H l with
 | none=>rfl
 | some o=>
  rw [e l o q] at h
  cases h
theorem Same.seq {K:PySem.W.Frag} {H H':Hp} {a:Addr} {xs:List V} (e:Same H H') (h:SqL K H a xs):SqL K H' a xs:=by
 rcases h with (h | ⟨o,h⟩) | h
 ·exact .inl (.inl (e _ _ h))
 ·exact .inl (.inr ⟨o,e _ _ h⟩)
 ·exact .inr h
end L2
set_option maxRecDepth 100000
namespace L2
open PySem PySem.Spec PyProof.Rows
theorem Inv.turnedN {X:Cx} {pins:List (Addr × Obj)} {σ:St} {H:Hp} {s:Shared} {h':Heap} {t':Nat} {ch:List Addr} (I:Inv X pins σ H s) (hf:∀ b ∈ ch,FpOk X pins H b)
  (k:∀ b o,b ∉ ch→s.heap.get? b=some o→h'.get? b=some o):Inv X pins σ H { s with heap:=h',toks:=t' }:=by
 refine I.step (g':=s.gens) (d':=s.drawn) (ch:=ch) (fun b hb=>⟨(hf b hb).2.2.2.1,(hf b hb).2.1,(hf b hb).2.2.2.2.1,(hf b hb).2.2.2.2.2⟩) (fun b o _ _ hc e _=>k b o hc e) (fun b o _ _ hc e _=>⟨o.slots,k b o hc e⟩) (fun _ _ _ _ n=>n)
  (fun b o hc e=>⟨o,k b o hc e⟩) (fun _ _ e=>e) (fun _ _ _ e=>e) (fun b ps e=>⟨#[],by rw [e]; simp⟩) (fun m hm=>?_) (fun b u e=>?_) I.bare
 ·obtain ⟨o,es,ep,ho,r⟩:=hm
  exact ⟨o,es,ep,k _ o (fun z=>(hf _ z).2.1 rfl) ho,r⟩
 ·refine (I.hok b u e).stay (fun c v hc q=>k c v (fun z=>?_) q) (fun _ q=>q) fun _ _ q=>q
  have n:=(hf c z).1
  rcases hc with w | w
  ·rw [w,e] at n; cases n
  ·rw [w] at n; cases n
theorem Inv.track {X:Cx} {pins:List (Addr × Obj)} {σ:St} {H:Hp} {s:Shared} {T:Addr} {o:HO} (I:Inv X pins σ H s) (hf:FpOk X pins H T) (hs:X.s₀.heap.objs.size ≤ T) (new:ObjOk X.prog X.w (upd H T o) s.heap T o):Inv X pins σ (upd H T o) s:=by
 have hn:=hf.1
 have:=I.step (h':=s.heap) (H':=upd H T o) (g':=s.gens) (d':=s.drawn) (t':=s.toks) (ch:=[T]) (fun b hb=>by
   have e:b=T:=by simpa using hb
   subst e
   exact ⟨.inr hs,hf.2.1,hf.2.2.2.2.1,hf.2.2.2.2.2⟩) (fun b o _ _ _ e _=>e) (fun b o _ _ _ e _=>⟨o.slots,e⟩) (fun b o hb _ n=>by rw [upd_ne (by simpa using hb)]; exact n)
  (fun b o _ e=>⟨o,e⟩) (fun b xs e=>by rw [upd_ne (ne_of_none e hn)]; exact e) (fun b ob xs e=>by rw [upd_ne (ne_of_none e hn)]; exact e) (fun b ps e=>⟨#[],by rw [upd_ne (ne_of_none e hn),e]; simp⟩) (fun m hm=>hm)
  (fun b u e=>by
   by_cases hb:b=T
   ·subst hb; rw [upd_same] at e; cases e; exact new
   ·rw [upd_ne hb] at e
    exact (I.hok b u e).stay (fun c v _ q=>q) (fun c q=>by rw [upd_ne (ne_of_none q hn)]; exact q) fun c xs q=>by rw [upd_ne (ne_of_none q hn)]; exact q) I.bare
 exact this
end L2
namespace L2
open PySem PySem.Spec PyProof.Rows
abbrev noX:Value→Shared→Prop:=fun _ _=>False
section
variable {prog : Program} {w : World} {A : Around} {R : Result → Shared → Prop} {s : Shared}
theorem compLoop_gen {elt target iter:Expr} {ifs:List Expr} {scope:Scope} {pos:Pos} {it acc:Value} {env:Env} (I:Nat→Shared→Prop)
  (turn:∀ n s,I n s→wpAny (model prog w) A (pyNext it) (fun r s₁=>match r with
   | none=>R (.ok .next) s₁
   | some v=>wpAny (model prog w) A (letOwnedTupleGo target it v) (fun _ s₂=>wpAny (model prog w) A (assign target env v) (fun _ s₃=>
     wpAny (model prog w) A (forIn ifs true fun c r=>if r=true then do let ok ← isTrue c env (eval c env); pure (ForInStep.yield ok) else pure (ForInStep.yield r)) (fun ok s₄=>
      if ok=true then wpAny (model prog w) A (eval elt env) (fun x s₅=>wpAny (model prog w) A (call (.builtin "list.append") [acc,x]) (fun _ s₆=>∃ m,m < n∧I m s₆) noX s₅) noX s₄
      else ∃ m,m < n∧I m s₄) noX s₃) noX s₂) noX s₁) noX s)
  (n:Nat) (h:I n s):codeAny (model prog w) A (.compLoop (.ListComp elt [⟨target,iter,ifs,0⟩] scope pos) 0 it acc env) R s:=by
 refine codeAny_loop rfl I (fun n s hI=>?_) n h
 show wpAny _ A ((compTurn (.ListComp elt [⟨target,iter,ifs,0⟩] scope pos) 0 it acc env).onRaise (fun x=>do noteFrame x env; theTreesLotGoes x)) _ _ s
 refine wpAny_noted ?_
 rw [compTurn_list]
 refine wpAny_bind (wpAny_standAt (wpAny_bind (wpAny_mono (turn n s hI) (fun r s₁ h₁=>?_) fun _ _ h'=>h'.elim)))
 cases r with
 | none=>exact wpAny_pure h₁
 | some v=>
  refine wpAny_bind (wpAny_mono h₁ (fun _ s₂ h₂=>?_) fun _ _ h'=>h'.elim)
  refine wpAny_bind (wpAny_mono h₂ (fun _ s₃ h₃=>wpAny_bind (wpAny_mono h₃ (fun ok s₄ h₄=>?_) fun _ _ h'=>h'.elim)) fun _ _ h'=>h'.elim)
  cases ok with
  | false=>exact wpAny_pure ⟨rfl,h₄⟩
  | true=>
   exact wpAny_bind (wpAny_bind (wpAny_mono h₄ (fun x s₅ h₅=>wpAny_bind (wpAny_mono h₅ (fun _ s₆ h₆=>wpAny_pure (wpAny_pure ⟨rfl,h₆⟩)) fun _ _ h'=>h'.elim)) fun _ _ h'=>h'.elim))
end
theorem newEnv_comp {M:Model} {A:Around} {E:Value→Shared→Prop} {s:Shared} {scope:Scope} {globals:Addr} {cl:List (Str × Addr)} {qual:Str} {env:Env} {Q:Env→Shared→Prop}
  (h:Q (newEnv scope s.heap.objs.size globals (cellsFrom (s.heap.objs.size + 1) scope.names cl) qual none .none (some env) builtinsNs) { s with heap:=pushCells (s.heap.push { cls:=.type "dict",data:=.dict #[] }) scope.names }):
  wpAny M A (newFunctionEnv scope globals cl [] qual none .none (some env)) Q E s:=by
 simp only [newFunctionEnv,Option.isSome_some,if_true]
 refine wpAny_bind (wpAny_alloc ?_)
 refine wpAny_bind (wpAny_layCells _ (fun name kind cells=>by cases hkc:kind == NameKind.cell <;> simp [hkc]) _ _ _ _ ?_)
 rw [show ({ s with heap:=s.heap.push { cls:=.type "dict",data:=.dict #[] } }:Shared).heap.objs.size=s.heap.objs.size + 1 from Heap.size_push ..]
 refine wpAny_bind ?_
 rw [List.forIn_nil]
 exact wpAny_pure (wpAny_pure h)
theorem closure_go {env:Env} (f:Str × NameKind→List (Str × Addr)→Sem (ForInStep (List (Str × Addr))))
  (hf:∀ name kind cs,f (name,kind) cs=if kind == .free then (do let a ← cellOf env name; pure (.yield ((name,a) :: cs))) else pure (.yield cs)):
  ∀ (names:List (Str × NameKind)) (cs:List (Str × Addr)),(∀ x ∈ names,x.2=.free→∃ c,env.cells.lookup x.1=some c)→
   ∃ cl,forIn names cs f=pure cl∧(∀ p ∈ cl,p ∈ cs ∨ env.cells.lookup p.1=some p.2)∧(∀ p ∈ cs,p ∈ cl)∧∀ x ∈ names,x.2=.free→∃ c,(x.1,c) ∈ cl
 | [],cs,_=>⟨cs,by rw [List.forIn_nil],fun _ h=>.inl h,fun _ h=>h,fun _ h=>nomatch h⟩
 | (name,kind) :: r,cs,hc=>by
  have hr:∀ x ∈ r,x.2=.free→∃ c,env.cells.lookup x.1=some c:=fun x hx=>hc x (List.mem_cons_of_mem _ hx)
  by_cases hk:kind=.free
  ·subst hk
   obtain ⟨c,e⟩:=hc (name,.free) List.mem_cons_self rfl
   obtain ⟨cl,h1,h2,h3,h4⟩:=closure_go f hf r ((name,c) :: cs) hr
   refine ⟨cl,?_,fun p hp=>?_,fun p hp=>h3 p (List.mem_cons_of_mem _ hp),fun x hx hf'=>?_⟩
   ·rw [List.forIn_cons,hf]
    show ((if (NameKind.free == NameKind.free)=true then _ else _) >>= _)=_
    rw [if_pos (by decide)]
    unfold cellOf
    rw [e]
    exact h1
   ·rcases h2 p hp with z | z
    ·rcases List.mem_cons.mp z with z | z
     ·subst z; exact .inr e
     ·exact .inl z
    ·exact .inr z
   ·rcases List.mem_cons.mp hx with z | z
    ·subst z; exact ⟨c,h3 _ List.mem_cons_self⟩
    ·exact h4 x z hf'
  ·obtain ⟨cl,h1,h2,h3,h4⟩:=closure_go f hf r cs hr
   refine ⟨cl,?_,h2,h3,fun x hx hf'=>?_⟩
   ·rw [List.forIn_cons,hf,if_neg (by simpa using hk)]
    exact h1
   ·rcases List.mem_cons.mp hx with z | z
    ·subst z; exact absurd hf' hk
    ·exact h4 x z hf'
theorem closure_ok {env:Env} {scope:Scope} (hc:∀ x ∈ scope.names,x.2=.free→∃ c,env.cells.lookup x.1=some c):
  ∃ cl,closureFor scope env=pure cl∧(∀ p ∈ cl,env.cells.lookup p.1=some p.2)∧∀ x ∈ scope.names,x.2=.free→∃ c,(x.1,c) ∈ cl:=by
 obtain ⟨cl,h1,h2,_,h4⟩:=closure_go (env:=env) (fun x cs=>if x.2 == .free then (do let a ← cellOf env x.1; pure (.yield ((x.1,a) :: cs))) else pure (.yield cs)) (fun _ _ _=>rfl) scope.names [] hc
 refine ⟨cl,?_,fun p hp=>(h2 p hp).elim (fun z=>nomatch z) id,h4⟩
 unfold closureFor
 rw [← h1]
 show (forIn scope.names [] _ >>= fun cs=>pure cs)=_
 have e:∀ (m:Sem (List (Str × Addr))),(m >>= fun cs=>pure cs)=m:=fun m=>bind_pure m
 first
  | exact e _
  | (rw [e]; congr 1; funext x cs; obtain ⟨n,k⟩:=x; cases hk:k == NameKind.free <;> simp [hk])
theorem lookup_of_mem {α:Type}:∀ {l:List (Str × α)} {x:Str} {c:α},(x,c) ∈ l→∃ d,l.lookup x=some d
 | (k,v) :: r,x,c,h=>by
  rw [List.lookup_cons]
  cases hb:x == k with
  | true=>exact ⟨v,rfl⟩
  | false=>
   rcases List.mem_cons.mp h with e | h
   ·cases e; simp at hb
   ·exact lookup_of_mem h
theorem cellsFrom_mem:∀ (names:List (Str × NameKind)) (n:Nat) (acc:List (Str × Addr)) (p:Str × Addr),p ∈ cellsFrom n names acc→p ∈ acc ∨ (n ≤ p.2∧(p.1,NameKind.cell) ∈ names)
 | [],_,_,_,h=>.inl h
 | (y,k) :: r,n,acc,p,h=>by
  unfold cellsFrom at h
  split at h
  ·rename_i hk
   have ek:k=.cell:=by simpa using hk
   rcases cellsFrom_mem r (n + 1) _ p h with z | ⟨z1,z2⟩
   ·rcases List.mem_cons.mp z with z | z
    ·subst z; subst ek; exact .inr ⟨Nat.le_refl _,List.mem_cons_self⟩
    ·exact .inl z
   ·exact .inr ⟨by omega,List.mem_cons_of_mem _ z2⟩
  ·rcases cellsFrom_mem r n acc p h with z | ⟨z1,z2⟩
   ·exact .inl z
   ·exact .inr ⟨z1,List.mem_cons_of_mem _ z2⟩
theorem cellsFrom_inj:∀ (names:List (Str × NameKind)) (n:Nat) (acc:List (Str × Addr)),(∀ p ∈ acc,p.2 < n)→(∀ x y c,(x,c) ∈ acc→(y,c) ∈ acc→x=y)→
  ∀ x y c,(x,c) ∈ cellsFrom n names acc→(y,c) ∈ cellsFrom n names acc→x=y
 | [],_,_,_,h=>h
 | (z,k) :: r,n,acc,hlt,h=>by
  unfold cellsFrom
  split
  ·refine cellsFrom_inj r (n + 1) _ (fun p hp=>?_) (fun x y c h1 h2=>?_)
   ·rcases List.mem_cons.mp hp with e | hp
    ·subst e; exact Nat.lt_succ_self _
    ·exact Nat.lt_succ_of_lt (hlt p hp)
   ·rcases List.mem_cons.mp h1 with e1 | h1 <;> rcases List.mem_cons.mp h2 with e2 | h2
    ·cases e1; cases e2; rfl
    ·cases e1; exact absurd (hlt _ h2) (Nat.lt_irrefl _)
    ·cases e2; exact absurd (hlt _ h1) (Nat.lt_irrefl _)
    ·exact h x y c h1 h2
  ·exact cellsFrom_inj r n acc hlt h
theorem cellsFrom_old:∀ (names:List (Str × NameKind)) (n:Nat) (acc:List (Str × Addr)) {x:Str},(∀ y ∈ names,y.2=.cell→y.1 ≠ x)→(cellsFrom n names acc).lookup x=acc.lookup x
 | [],_,_,_,_=>rfl
 | (z,k) :: r,n,acc,x,h=>by
  unfold cellsFrom
  have hr:∀ y ∈ r,y.2=.cell→y.1 ≠ x:=fun y hy=>h y (List.mem_cons_of_mem _ hy)
  split
  ·rename_i hk
   rw [cellsFrom_old r (n + 1) _ hr,List.lookup_cons]
   have:(x == z)=false:=by
    have:=h (z,k) List.mem_cons_self (by simpa using hk)
    simpa using Ne.symm this
   rw [this]
  ·exact cellsFrom_old r n acc hr
theorem pushCells_cells:∀ (names:List (Str × NameKind)) (h:Heap) (acc:List (Str × Addr)),(∀ p ∈ acc,∃ v,h.IsCell p.2 v)→∀ p ∈ cellsFrom h.objs.size names acc,∃ v,(pushCells h names).IsCell p.2 v
 | [],_,_,hc=>hc
 | (z,k) :: r,h,acc,hc=>by
  unfold cellsFrom pushCells
  split
  ·have:=pushCells_cells r (h.push { cls:=.type "cell",data:=.cell none }) ((z,h.objs.size) :: acc) (fun p hp=>by
    rcases List.mem_cons.mp hp with e | hp
    ·subst e; exact ⟨none,_,Heap.get?_push_size _ rfl,rfl⟩
    ·obtain ⟨v,q⟩:=hc p hp
     exact ⟨v,q.keeps fun b o e=>Heap.get?_push_of_some _ e⟩)
   rwa [Heap.size_push] at this
  ·exact pushCells_cells r h acc hc
def cxComp (X:Cx) (scope:Scope) (N':List Str) (cells:List (Str × Addr)) (C:Addr) (s:Shared) (H:Hp) (fp:List Addr):Cx where
 prog:=X.prog
 w:=X.w
 K:=X.K
 mg:=X.mg
 base:=X.base
 A:=X.A
 N:=N'
 s₀:=s
 H₀:=H
 env:=compEnvC scope cells C X.env
 outer:=X.stack
 stack:=X.stack
 ex:=fp
 fn:=fun x=>decide (scope.names.lookup x=some .cell)
 calm:=X.calm
 pn:=[]
 xe:=fun _ _=>False
def isFreeIn (scope:Scope) (x:Str):Bool:=scope.names.any fun y=>y.1 == x && y.2 == .free
def isCellIn (scope:Scope) (x:Str):Bool:=scope.names.any fun y=>y.1 == x && y.2 == .cell
def compCheck (sc:Scope) (N:List Str) (scope:Scope) (nT:Nat) (js:List Nat) (N':List Str):Bool:=
 scope.kind == .function && decide (N'.length=nT + js.length) &&
 scope.names.all (fun x=>(x.2 != .local || scope.names.lookup x.1 == some .local) && (x.2 != .free || ((sc.names.lookup x.1 == some .cell || sc.names.lookup x.1 == some .free) && scope.names.lookup x.1 == some .free))) &&
 (js.zipIdx.all fun (j,i)=>match N'[nT + i]?,N[j]? with
  | some x,some y=>x == y && isFreeIn scope x && !(isCellIn scope x)
  | _,_=>false)
structure CompScope (X : Cx) (scope : Scope) (nT : Nat) (js : List Nat) (N' : List Str) : Prop where
  kind : scope.kind = .function
  len : N'.length = nT + js.length
  loc : ∀ x ∈ scope.names, x.2 = .local → scope.names.lookup x.1 = some .local
  free : ∀ x ∈ scope.names, x.2 = .free → (X.env.kindOf x.1 = some .cell ∨ X.env.kindOf x.1 = some .free)
  frl : ∀ x ∈ scope.names, x.2 = .free → scope.names.lookup x.1 = some .free
  cap : ∀ (i j : Nat), js[i]? = some j → ∃ x, N'[nT + i]? = some x ∧ X.N[j]? = some x ∧ (x, NameKind.free) ∈ scope.names ∧ ∀ y ∈ scope.names, y.2 = .cell → y.1 ≠ x
theorem compScope_of {X:Cx} {sc:Scope} {N:List Str} {scope:Scope} {nT:Nat} {js:List Nat} {N':List Str} (hsc:X.env.scope=sc) (hN:X.N=N) (h:compCheck sc N scope nT js N'=true):CompScope X scope nT js N':=by
 unfold compCheck at h
 simp only [Bool.and_eq_true,decide_eq_true_eq,List.all_eq_true,beq_iff_eq] at h
 obtain ⟨⟨⟨h1,h2⟩,h3⟩,h4⟩:=h
 refine ⟨h1,h2,fun x hx hl=>?_,fun x hx hf=>?_,fun x hx hf=>?_,fun i j e=>?_⟩
 ·have:=(h3 x hx).1
  simp only [hl,bne_self_eq_false,Bool.false_or,beq_iff_eq] at this
  exact this
 ·have:=(h3 x hx).2
  simp only [hf,bne_self_eq_false,Bool.false_or,Bool.or_eq_true,Bool.and_eq_true,beq_iff_eq] at this
  show X.env.scope.names.lookup x.1=_ ∨ X.env.scope.names.lookup x.1=_
  rw [hsc]
  exact this.1
 ·have:=(h3 x hx).2
  simp only [hf,bne_self_eq_false,Bool.false_or,Bool.or_eq_true,Bool.and_eq_true,beq_iff_eq] at this
  exact this.2
 ·have m:(j,i) ∈ js.zipIdx:=by
   rw [List.mem_zipIdx_iff_getElem?]
   exact e
  have q:=h4 (j,i) m
  rw [hN]
  revert q
  dsimp only
  cases e1:N'[nT + i]? with
  | none=>intro q; cases q
  | some x=>
   cases e2:N[j]? with
   | none=>intro q; cases q
   | some y=>
    intro q
    simp only [Bool.and_eq_true,beq_iff_eq,Bool.not_eq_true'] at q
    obtain ⟨⟨q1,q2⟩,q3⟩:=q
    subst q1
    refine ⟨x,rfl,rfl,?_,fun y hy hc hxy=>?_⟩
    ·unfold isFreeIn at q2
     obtain ⟨z,hz,hz2⟩:=List.any_eq_true.mp q2
     simp only [Bool.and_eq_true,beq_iff_eq] at hz2
     obtain ⟨a,b⟩:=z
     obtain ⟨rfl,rfl⟩:=hz2
     exact hz
    ·have:isCellIn scope x=true:=List.any_eq_true.mpr ⟨y,hy,by simp [hxy,hc]⟩
     rw [q3] at this; cases this
def capSt (nT:Nat) (js:List Nat) (σ:St):St:=List.replicate nT none ++ js.map fun j=>(σ[j]?).join
def PIfs (X:Cx) (ifs:List Expr) (t:TT):Prop:=
 ∀ (pins:List (Addr × Obj)) (s:Shared) (σ:St) (H:Hp) (Q:Bool→Hp→Prop),Inv X pins σ H s→t σ H Q→
  wpAny (model X.prog X.w) X.A (forIn ifs true fun c r=>if r=true then do let ok ← isTrue c X.env (eval c X.env); pure (ForInStep.yield ok) else pure (ForInStep.yield r)) (TP X pins σ Q) X.xe s
def tYes:TT:=fun _ H Q=>Q true H
theorem pif_nil {X:Cx}:PIfs X [] tYes:=fun pins s σ H Q I h=>by rw [List.forIn_nil]; exact wpAny_pure ⟨H,I,h⟩
theorem pif_one {X:Cx} {c:Expr} {t:TT} (hc:PT X c t):PIfs X [c] t:=fun pins s σ H Q I h=>by
 rw [List.forIn_cons]
 rw [if_pos rfl]
 refine wpAny_bind (wpAny_bind (thn (hc pins s σ H Q I h) fun b s1 q=>wpAny_pure ?_))
 show wpAny _ _ (forIn [] b _) _ _ _
 rw [List.forIn_nil]
 exact wpAny_pure q
def compRd (nT:Nat) (js:List Nat) (g:TG) (tt:TT) (te:TE) (σ:St) (F:Addr→Hp→Prop):It→Hp→Prop:=fun J H1=>∀ l,H1 l=none→
 ∃ W:Nat→Nat→St→Hp→Prop,(∃ m,W 0 m (capSt nT js σ) (upd H1 l (.lst [])))∧∀ i m σ' H',W i m σ' H'→
  (J.stop i H'∧F l H') ∨ (J.go i H'∧∀ x H2,J.yld i H' x H2→g x σ' H2 fun σ3 H3=>∃ (N:Hp→Prop) (NV:V→Hp→Prop),
   (∀ H4,N H4→∃ m',m' < m∧W (i + 1) m' σ3 H4)∧(∀ v H5,NV v H5→∃ ys,H5 l=some (.lst ys)∧ys.length < sizeLine∧∃ m',m' < m∧W (i + 1) m' σ3 (upd H5 l (.lst (ys ++ [v]))))∧
   tt σ3 H3 fun b H4=>if b=true then te σ3 H4 NV else N H4)
section
variable {X : Cx} {pins : List (Addr × Obj)} {σ : St} {H : Hp} {s : Shared} {elt tg iter : Expr} {ifs : List Expr} {scope : Scope} {pos : Pos} {wi : TI} {nT : Nat} {js : List Nat} {N' : List Str} {g : TG} {tt : TT} {te : TE}
def OwnC (X:Cx) (pins:List (Addr × Obj)) (H:Hp) (C:Addr) (s:Shared):Prop:=FpOk X pins H C∧X.s₀.heap.objs.size ≤ C∧∃ m,s.heap.Ns C m
theorem comp_run {use:Option (Value→Sem Unit)} {Q:Value→Shared→Prop} {F:Addr→Hp→Prop} {cpos:Pos} {Cc:Cx→Prop} (hc:∀ cells C s H fp,Cc (cxComp X scope N' cells C s H fp)) (S:CompScope X scope nT js N') (hi:PI0 Cc X tg iter wi)
  (hg:∀ cells C s H fp,PG (cxComp X scope N' cells C s H fp) tg g) (ht:∀ cells C s H fp,PIfs (cxComp X scope N' cells C s H fp) ifs tt) (he:∀ cells C s H fp,PE (cxComp X scope N' cells C s H fp) elt te)
  (I:Inv X pins σ H s) (h:wi σ H (compRd nT js g tt te σ F))
  (fin:∀ (l C:Addr) (s':Shared) (H':Hp),Inv X pins σ H' s'→OwnC X pins H' C s'→F l H'→compPost (model X.prog X.w) X.A X.xe use Q (.ref l) C (.ok .next) s')
  (hs:∀ x,foldedSetIterable iter X.env x=pure x:=by intro _; rfl):
  wpAny (model X.prog X.w) X.A (comprehension (.ListComp elt [⟨tg,iter,ifs,0⟩] scope pos) scope X.env cpos (newList []) false (eval iter X.env) use) Q X.xe s:=by
 have hasC:∀ x ∈ scope.names,x.2=.free→∃ c,X.env.cells.lookup x.1=some c:=fun x hx hf=>I.ok.has x.1 (S.free x hx hf)
 obtain ⟨cl,hcl,hclm,hclf⟩:=closure_ok (env:=X.env) hasC
 refine wpAny_comprehension_free rfl hs hcl S.kind S.loc (thn (hi pins s σ H _ I h) fun v s1 h1=>thn h1 fun itv s2 h2=>?_)
 obtain ⟨it,fp,tn,J,H2,e,I2,T,st2,f2,rd⟩:=h2
 subst e
 have I3:Inv X pins σ (upd H2 s2.heap.objs.size (.lst [])) { s2 with heap:=s2.heap.push { cls:=.type "list",data:=.seq ([]:List Value).toArray } }:=I2.lnew (t':=s2.toks) (its:=[]) .nil (Nat.zero_le _)
 refine wpAny_newObj_type ?_ (by show 0 ≤ sizeLine; exact Nat.zero_le _)
 obtain ⟨W,⟨m0,w0⟩,turn⟩:=rd s2.heap.objs.size (I2.hok.fresh (Nat.le_refl _))
 have hl2:H2 s2.heap.objs.size=none:=I2.hok.fresh (Nat.le_refl _)
 generalize hl:s2.heap.objs.size=l at I3 w0 turn hl2 ⊢
 generalize hs3:({ s2 with heap:=s2.heap.push { cls:=.type "list",data:=.seq ([]:List Value).toArray } }:Shared)=s3 at I3 ⊢
 have z3:s3.heap.objs.size=l + 1:=by rw [← hs3,← hl]; exact Heap.size_push ..
 have k23:∀ b o,s2.heap.get? b=some o→s3.heap.get? b=some o:=fun b o e=>by rw [← hs3]; exact Heap.get?_push_of_some _ e
 refine newEnv_comp ?_
 generalize hC:s3.heap.objs.size=C
 generalize hcells:cellsFrom (C + 1) scope.names cl=cells
 have hz4:(s3.heap.push { cls:=.type "dict",data:=.dict #[] }).objs.size=C + 1:=by rw [Heap.size_push,hC]
 have k34:∀ b o,s3.heap.get? b=some o→(pushCells (s3.heap.push { cls:=.type "dict",data:=.dict #[] }) scope.names).get? b=some o:=fun b o e=>pushCells_keeps _ _ b o (Heap.get?_push_of_some _ e)
 have nsC:(pushCells (s3.heap.push { cls:=.type "dict",data:=.dict #[] }) scope.names).Ns C (fun _=>none):=by
  have:=(Heap.Ns.new s3.heap (.type "dict")).keeps (pushCells_keeps scope.names _)
  rwa [hC] at this
 generalize hh4:pushCells (s3.heap.push { cls:=.type "dict",data:=.dict #[] }) scope.names=h4 at k34 nsC
 have memC:∀ x c,cells.lookup x=some c→(X.env.cells.lookup x=some c∧@LT.lt Nat _ c C) ∨ (@LE.le Nat _ (C + 1) c∧(x,NameKind.cell) ∈ scope.names):=fun x c e=>by
  have m:=mem_of_lookup e
  rw [← hcells] at m
  rcases cellsFrom_mem _ _ _ _ m with z | z
  ·have q:=hclm _ z
   obtain ⟨v,iz⟩:=I3.cell x c q
   exact .inl ⟨q,by have:=iz.lt; rw [hC] at this; exact this⟩
  ·exact .inr z
 have cellsOk:∀ x c,cells.lookup x=some c→∃ v,h4.IsCell c v:=fun x c e=>by
  have m:=mem_of_lookup e
  have:=pushCells_cells scope.names (s3.heap.push { cls:=.type "dict",data:=.dict #[] }) cl (fun p hp=>by
   obtain ⟨v,iz⟩:=I3.cell p.1 p.2 (hclm p hp)
   exact ⟨v,iz.keeps fun b o e=>Heap.get?_push_of_some _ e⟩)
  rw [hz4,hcells,hh4] at this
  exact this _ m
 show codeAny (model X.prog X.w) X.A (.compStart _ 0 (.ref it) (.ref l) (compEnvC scope cells C X.env)) (compPost (model X.prog X.w) X.A X.xe use Q (.ref l) C) { s3 with heap:=h4 }
 have fpLt:∀ b ∈ fp,@LT.lt Nat _ b l:=fun b hb=>by
  obtain ⟨o,e,_⟩:=T.obj _ _ st2 b hb
  rw [← hl]; exact Heap.lt_size e
 have fpStk:∀ b ∈ fp,b ∉ frs X.stack:=fun b hb z=>(List.mem_cons.mp (I2.stkSub b z)).elim (f2 b hb).2.1 (f2 b hb).2.2.1
 have okC:(cxComp X scope N' cells C s3 (upd H2 l (.lst [])) fp).Ok:=by
  refine ⟨I3.ok.mod,S.kind,I3.ok.glob,I3.ok.blt,Nat.le_of_eq hC,fun x y c e1 e2=>?_,fun x hx=>?_,fun x c hf e=>?_,I3.ok.hd,I3.ok.frames,.inl rfl,fun b hb=>⟨?_,fun x c e z=>?_⟩,I3.bs,Nat.le_trans I3.ok.bsz I3.sz,fun b o e hb=>?_,fpStk,I3.stack,I3.stkFree⟩
  ·have e1':=mem_of_lookup (show cells.lookup x=some c from e1)
   have e2':=mem_of_lookup (show cells.lookup y=some c from e2)
   rw [← hcells] at e1' e2'
   refine cellsFrom_inj scope.names (C + 1) cl (fun p hp=>?_) (fun x y c h1 h2=>I3.ok.inj x y c (hclm _ h1) (hclm _ h2)) x y c e1' e2'
   obtain ⟨v,iz⟩:=I3.cell p.1 p.2 (hclm p hp)
   have h1:@LT.lt Nat _ p.2 s3.heap.objs.size:=iz.lt
   rw [hC] at h1
   show @LT.lt Nat _ p.2 (C + 1)
   omega
  ·have hx':(relabel scope X.env).names.lookup x=some .cell ∨ (relabel scope X.env).names.lookup x=some .free:=hx
   have:∃ k,(x,k) ∈ scope.names∧(k=.cell ∨ k=.free):=by
    have m:∃ k,(x,k) ∈ (relabel scope X.env).names∧(k=.cell ∨ k=.free):=by
     rcases hx' with z | z
     ·exact ⟨_,mem_of_lookup z,.inl rfl⟩
     ·exact ⟨_,mem_of_lookup z,.inr rfl⟩
    obtain ⟨k,m,hk⟩:=m
    unfold relabel at m
    obtain ⟨⟨n,k'⟩,m',e⟩:=List.mem_map.mp m
    dsimp only at e
    split at e
    ·rename_i hcond
     cases e
     simp only [Bool.and_eq_true,beq_iff_eq] at hcond
     exact ⟨k',m',.inr hcond.1.1⟩
    ·cases e; exact ⟨k,m',hk⟩
   obtain ⟨k,m,hk⟩:=this
   show ∃ c,cells.lookup x=some c
   rw [← hcells]
   have key:∃ c,(x,c) ∈ cellsFrom (C + 1) scope.names cl:=by
    rcases hk with rfl | rfl
    ·have gen:∀ (names:List (Str × NameKind)) (n:Nat) (acc:List (Str × Addr)),((x,NameKind.cell) ∈ names ∨ ∃ c,(x,c) ∈ acc)→∃ c,(x,c) ∈ cellsFrom n names acc:=by
      intro names
      induction names with
      | nil=>intro n acc h; exact h.elim (fun z=>nomatch z) id
      | cons y r ih=>
       intro n acc h
       obtain ⟨y,k⟩:=y
       unfold cellsFrom
       split
       ·rename_i hk
        refine ih _ _ ?_
        rcases h with h | ⟨c,h⟩
        ·rcases List.mem_cons.mp h with e | h
         ·cases e; exact .inr ⟨n,List.mem_cons_self⟩
         ·exact .inl h
        ·exact .inr ⟨c,List.mem_cons_of_mem _ h⟩
       ·rename_i hk
        refine ih _ _ ?_
        rcases h with h | h
        ·rcases List.mem_cons.mp h with e | h
         ·cases e; exact absurd (show (NameKind.cell == NameKind.cell)=true by decide) hk
         ·exact .inl h
        ·exact .inr h
     exact gen _ _ _ (.inl m)
    ·obtain ⟨c,hc'⟩:=hclf _ m rfl
     have gen:∀ (names:List (Str × NameKind)) (n:Nat) (acc:List (Str × Addr)),(x,c) ∈ acc→(x,c) ∈ cellsFrom n names acc:=by
      intro names
      induction names with
      | nil=>intro n acc h; exact h
      | cons y r ih=>
       intro n acc h
       obtain ⟨y,k⟩:=y
       unfold cellsFrom
       split
       ·exact ih _ _ (List.mem_cons_of_mem _ h)
       ·exact ih _ _ h
     exact ⟨c,gen _ _ _ hc'⟩
   obtain ⟨c,m⟩:=key
   exact lookup_of_mem m
  ·have hf':decide (scope.names.lookup x=some NameKind.cell)=true:=hf
   have hf'':=of_decide_eq_true hf'
   rcases memC x c e with ⟨_,_⟩ | ⟨z,_⟩
   ·
    have gen:∀ (names:List (Str × NameKind)) (n:Nat) (acc:List (Str × Addr)),names.lookup x=some .cell→C + 1 ≤ n→∀ c,(cellsFrom n names acc).lookup x=some c→C + 1 ≤ c:=by
     intro names
     induction names with
     | nil=>intro n acc h; cases h
     | cons y r ih=>
      intro n acc h hn c hcc
      obtain ⟨y,k⟩:=y
      rw [List.lookup_cons] at h
      unfold cellsFrom at hcc
      have last:∀ (names:List (Str × NameKind)) (n:Nat) (acc:List (Str × Addr)),C + 1 ≤ n→(∀ d,acc.lookup x=some d→C + 1 ≤ d)→∀ c,(cellsFrom n names acc).lookup x=some c→C + 1 ≤ c:=by
       intro names
       induction names with
       | nil=>intro n acc _ h c hc; exact h c hc
       | cons y r ih=>
        intro n acc hn h c hc
        obtain ⟨y,k⟩:=y
        unfold cellsFrom at hc
        split at hc
        ·refine ih (n + 1) _ (by omega) (fun d hd=>?_) c hc
         rw [List.lookup_cons] at hd
         split at hd
         ·cases hd; exact hn
         ·exact h d hd
        ·exact ih n acc hn h c hc
      cases hb:x == y with
      | true=>
       rw [hb] at h
       cases h
       rw [if_pos (by decide)] at hcc
       refine last r (n + 1) _ (by omega) (fun d hd=>?_) c hcc
       rw [List.lookup_cons,hb] at hd
       cases hd; exact hn
      | false=>
       rw [hb] at h
       split at hcc
       ·exact ih (n + 1) _ h (by omega) c hcc
       ·exact ih n acc h hn c hcc
    have e':cells.lookup x=some c:=e
    rw [← hcells] at e'
    have h1:@LE.le Nat _ (C + 1) c:=gen scope.names (C + 1) cl hf'' (Nat.le_refl _) c e'
    show @LE.le Nat _ s3.heap.objs.size c
    omega
   ·show @LE.le Nat _ s3.heap.objs.size c
    omega
  ·have:=fpLt b hb
   show @Ne Nat b C
   omega
  ·subst z
   rcases memC x c e with ⟨q,_⟩ | ⟨q,_⟩
   ·exact (f2 c hb).2.2.2.2.1 x c q rfl
   ·have:=fpLt c hb
    omega
  ·rcases (f2 b hb).2.2.2.1 with z | z
   ·exact I3.ok.noex b o e z
   ·exact absurd (Nat.lt_of_lt_of_le (Heap.lt_size e) (Nat.le_trans I3.ok.bsz z)) (Nat.lt_irrefl _)
 have HC:∀ c:Addr,@LE.le Nat _ C c→upd H2 l (.lst []) c=none:=fun c hcc=>I3.hok.fresh (show @LE.le Nat _ s3.heap.objs.size c by omega)
 have I4:Inv (cxComp X scope N' cells C s3 (upd H2 l (.lst [])) fp) [] (capSt nT js σ) (upd H2 l (.lst [])) { s3 with heap:=h4 }:=by
  refine ⟨okC,rfl,I3.bare,Un.kept k34,⟨_,nsC,fun i x v e1 e2 e3=>?_⟩,cellsOk,HC C (Nat.le_refl _),fun x c e=>?_,(fun p hp=>nomatch hp),I3.hok.kept k34,?_⟩
  ·
   unfold capSt at e2
   by_cases hi':i < nT
   ·rw [List.getElem?_append_left (by simpa using hi'),List.getElem?_replicate] at e2
    split at e2 <;> cases e2
   ·rw [List.getElem?_append_right (by simpa using hi'),List.length_replicate,List.getElem?_map] at e2
    cases ej:js[i - nT]? with
    | none=>rw [ej] at e2; cases e2
    | some j=>
     rw [ej] at e2
     have e2':(σ[j]?).join=some v:=by simpa using e2
     have e2'':σ[j]?=some (some v):=by
      cases eσ:σ[j]? with
      | none=>rw [eσ] at e2'; cases e2'
      | some o=>rw [eσ] at e2'; exact congrArg some e2'
     obtain ⟨y,n1,n2,n3,n4⟩:=S.cap _ _ ej
     have:nT + (i - nT)=i:=by omega
     rw [this] at n1
     have exy:x=y:=by
      have e1':N'[i]?=some x:=e1
      rw [n1] at e1'; exact (Option.some.inj e1').symm
     subst exy
     obtain ⟨m,hn,hlk⟩:=I3.loc
     have kinds:=S.free _ n3 rfl
     have vis:Vis X.env.scope x:=by
      rcases kinds with k | k
      ·exact .inr (.inl k)
      ·exact .inr (.inr k)
     obtain ⟨u,r,lk⟩:=hlk j x v n2 e2'' vis
     refine ⟨u,r,?_⟩
     rcases lk with ⟨k,_⟩ | ⟨k,c,ec,iz⟩
     ·rcases kinds with k' | k'
      ·rw [k] at k'; cases k'
      ·rw [k] at k'; cases k'
     ·refine .inr ⟨?_,c,?_,iz.keeps k34⟩
      ·show (relabel scope X.env).names.lookup x=some .cell ∨ (relabel scope X.env).names.lookup x=some .free
       have e3':Vis (relabel scope X.env) x:=e3
       rcases e3' with z | z | z
       ·
        exfalso
        have m:=mem_of_lookup z
        unfold relabel at m
        obtain ⟨⟨n,k'⟩,m',e⟩:=List.mem_map.mp m
        dsimp only at e
        split at e
        ·cases e
        ·cases e
         have q:=S.loc _ m' rfl
         rw [S.frl _ n3 rfl] at q
         cases q
       ·exact .inl z
       ·exact .inr z
      ·show cells.lookup x=some c
       rw [← hcells,cellsFrom_old _ _ _ n4]
       obtain ⟨d,hd⟩:=hclf _ n3 rfl
       obtain ⟨d',hd'⟩:=lookup_of_mem hd
       have:=hclm _ (mem_of_lookup hd')
       rw [ec] at this
       rw [hd',Option.some.inj this]
  ·rcases memC x c e with ⟨q,_⟩ | ⟨q,_⟩
   ·exact I3.freeC x c q
   ·exact HC c (by omega)
  ·unfold capSt
   show _=N'.length
   rw [S.len,List.length_append,List.length_replicate,List.length_map]
 have stat:∀ {H':Hp},(∀ b ∈ fp,H' b=none)→∀ b ∈ fp,FpOk (cxComp X scope N' cells C s3 (upd H2 l (.lst [])) fp) [] H' b:=fun hn b hb=>by
  refine ⟨hn b hb,?_,fpStk b hb,.inl hb,fun x c e z=>?_,(fun p hp=>nomatch hp)⟩
  ·have:=fpLt b hb
   show @Ne Nat b C
   omega
  ·subst z
   rcases memC x c e with ⟨q,_⟩ | ⟨q,_⟩
   ·exact (f2 c hb).2.2.2.2.1 x c q rfl
   ·have:=fpLt c hb
    omega
 have fr0:∀ b ∈ fp,upd H2 l (.lst []) b=none:=fun b hb=>by
  rw [upd_ne (Nat.ne_of_lt (fpLt b hb))]
  exact (f2 b hb).1
 have tn4:tn 0 h4:=T.keep _ _ _ st2 fun b _ o e=>k34 b o (k23 b o e)
 have loop:codeAny (model X.prog X.w) X.A (.compLoop (.ListComp elt [⟨tg,iter,ifs,0⟩] scope pos) 0 (.ref it) (.ref l) (compEnvC scope cells C X.env)) (compPost (model X.prog X.w) X.A X.xe use Q (.ref l) C) { s3 with heap:=h4 }:=by
  refine compLoop_gen (fun n s'=>∃ i σ' H',Inv (cxComp X scope N' cells C s3 (upd H2 l (.lst [])) fp) [] σ' H' s'∧tn i s'.heap∧(∀ b ∈ fp,H' b=none)∧W i n σ' H') ?_ m0 ⟨0,_,_,I4,tn4,fr0,w0⟩
  rintro n s5 ⟨i,σ5,H5,I5,st5,fr5,w5⟩
  rcases turn i n σ5 H5 w5 with ⟨stop,qn⟩ | ⟨go,step⟩
  ·refine thn (T.done (cxComp X scope N' cells C s3 (upd H2 l (.lst [])) fp) rfl rfl rfl (hc _ _ _ _ _) i [] s5 σ5 H5 noX I5 (stat fr5) st5 stop) fun r s6 ⟨hr,I6⟩=>?_
   subst hr
   have un:Un (frs X.stack) fp (upd H2 l (.lst [])) H5 s3.heap s6.heap:=I6.base
   have J6:Inv X pins σ H5 s6:=I3.call' (ch:=fp) I6.os un I6.hok I6.bare fun b hb=>⟨(f2 b hb).2.2.2.1,(f2 b hb).2.1,(f2 b hb).2.2.2.2.1,(f2 b hb).2.2.2.2.2⟩
   obtain ⟨m6,n6,_⟩:=I6.loc
   have hCX:@Ne Nat C X.env.locals:=by
    have h1:@LT.lt Nat _ X.env.locals s3.heap.objs.size:=I3.lt
    omega
   have hCs:@LE.le Nat _ X.s₀.heap.objs.size C:=by have:=I3.sz; omega
   refine fin l C s6 H5 J6 ⟨⟨I6.free,hCX,fun z=>?_,.inr hCs,fun x c e z=>?_,fun p hp z=>?_⟩,hCs,m6,n6⟩ qn
   ·have:=I3.nofs (a:=C) (Nat.le_of_eq hC)
    exact this z
   ·obtain ⟨v,iz⟩:=I3.cell x c e
    have h1:@LT.lt Nat _ c s3.heap.objs.size:=iz.lt
    have h2:@Eq Nat c C:=z
    omega
   ·have h1:@LT.lt Nat _ p.1 s3.heap.objs.size:=Heap.lt_size (I3.pin p hp).1
    have h2:@Eq Nat p.1 C:=z
    omega
  ·refine thn (T.item (cxComp X scope N' cells C s3 (upd H2 l (.lst [])) fp) rfl rfl rfl (hc _ _ _ _ _) i [] s5 σ5 H5 noX I5 (stat fr5) st5 go) fun r s6 ⟨u,hr,h6⟩=>?_
   subst hr
   refine thn h6 fun _ s7 ⟨x,H7,I7,r7,y7,st7,fr7⟩=>?_
   have I7':=I7.pinned (stat fr7) (T.obj _ _ st7)
   refine thn (hg cells C s3 (upd H2 l (.lst [])) fp _ s7 σ5 H7 x u _ I7' r7 (step x H7 y7)) fun _ s8 ⟨σ8,H8,I8,q8⟩=>?_
   have again:∀ {H9:Hp} {s9:Shared},Inv (cxComp X scope N' cells C s3 (upd H2 l (.lst [])) fp) ([] ++ pinsAt fp s7.heap) σ8 H9 s9→tn (i + 1) s9.heap∧∀ b ∈ fp,H9 b=none:=fun {H9 s9} I9=>by
    refine ⟨T.keep _ _ _ st7 fun b hb o e=>(I9.pin (b,o) (List.mem_append_right _ (List.mem_append_right _ (mem_pinsAt hb e)))).1,fun b hb=>?_⟩
    obtain ⟨o,e,d⟩:=T.obj _ _ st7 b hb
    exact (I9.pin (b,o) (List.mem_append_right _ (List.mem_append_right _ (mem_pinsAt hb e)))).2.1
   obtain ⟨N,NV,hN,hNV,q8⟩:=q8
   refine thn (ht cells C s3 (upd H2 l (.lst [])) fp _ s8 σ8 H8 _ I8 q8) fun b s9 ⟨H9,I9,q9⟩=>?_
   cases b with
   | false=>
    rw [if_neg Bool.false_ne_true] at q9 ⊢
    obtain ⟨m',hm,w9⟩:=hN _ q9
    exact ⟨m',hm,i + 1,σ8,H9,I9.unpinned,(again I9).1,(again I9).2,w9⟩
   | true=>
    rw [if_pos rfl] at q9 ⊢
    refine thn (he cells C s3 (upd H2 l (.lst [])) fp _ s9 σ8 H9 _ I9 q9) fun y s10 ⟨v,H10,I10,r10,q10⟩=>?_
    obtain ⟨ys,el,hz,m',hm,w10⟩:=hNV _ _ q10
    refine thn (mt_append (X:=cxComp X scope N' cells C s3 (upd H2 l (.lst [])) fp) _ s10 σ8 H10 (.ref l) [v] (.ref l) [y] (fun z H11=>z=.non∧H11=upd H10 l (.lst (ys ++ [v]))) I10 rfl (.cons r10 .nil) ⟨l,ys,v,rfl,rfl,el,hz,rfl,rfl⟩) fun _ s11 ⟨_,H11,I11,_,_,e11⟩=>?_
    subst e11
    exact ⟨m',hm,i + 1,σ8,_,I11.unpinned,(again I11).1,(again I11).2,w10⟩
 refine codeAny_compStart_list loop (T.self _ 0 _ _ _ tn4 loop)
end
end L2
namespace L2
open PySem PySem.Spec PyProof.Rows
section
variable {X : Cx} {elt tg iter : Expr} {ifs : List Expr} {scope : Scope} {pos : Pos} {wi : TI} {nT : Nat} {js : List Nat} {N' : List Str} {g : TG} {tt : TT} {te : TE}
def tComp (wi:TI) (nT:Nat) (js:List Nat) (g:TG) (tt:TT) (te:TE):TE:=fun σ H Q=>wi σ H (compRd nT js g tt te σ fun l H'=>Q (.ref l) H')
theorem pe_comp0 {Cc:Cx→Prop} (hc:∀ cells C s H fp,Cc (cxComp X scope N' cells C s H fp)) (S:CompScope X scope nT js N') (hi:PI0 Cc X tg iter wi)
  (hg:∀ cells C s H fp,PG (cxComp X scope N' cells C s H fp) tg g) (ht:∀ cells C s H fp,PIfs (cxComp X scope N' cells C s H fp) ifs tt) (he:∀ cells C s H fp,PE (cxComp X scope N' cells C s H fp) elt te)
  (hs:∀ x,foldedSetIterable iter X.env x=pure x:=by intro _; rfl):PE X (.ListComp elt [⟨tg,iter,ifs,0⟩] scope pos) (tComp wi nT js g tt te):=by
 intro pins s σ H Q I h
 rw [eval_ListComp]
 refine comp_run (use:=none) hc S hi hg ht he I h (fun l C s' H' I' ⟨f,_,m,n⟩ q=>?_) hs
 refine ⟨m,n,fun h' sb=>⟨.ref l,H',?_,rfl,q⟩⟩
 exact I'.turned (t':=s'.toks) (fun b o hb e=>(sb.2 b hb).trans e) f.1 f.2.1 f.2.2.2.1 f.2.2.2.2.1 f.2.2.2.2.2
theorem pe_comp (hc:X.calm=true) (S:CompScope X scope nT js N') (hi:PI X tg iter wi)
  (hg:∀ cells C s H fp,PG (cxComp X scope N' cells C s H fp) tg g) (ht:∀ cells C s H fp,PIfs (cxComp X scope N' cells C s H fp) ifs tt) (he:∀ cells C s H fp,PE (cxComp X scope N' cells C s H fp) elt te)
  (hs:∀ x,foldedSetIterable iter X.env x=pure x:=by intro _; rfl):PE X (.ListComp elt [⟨tg,iter,ifs,0⟩] scope pos) (tComp wi nT js g tt te):=pe_comp0 (fun _ _ _ _ _=>hc) S hi hg ht he hs
theorem ps_setComp0 {Cc:Cx→Prop} {i:Nat} {x:Str} {pos' spos:Pos} (hN:X.N.Nodup) (hi':X.N[i]?=some x) (hx:X.env.scope.names.lookup x=some .local) (hc:∀ cells C s H fp,Cc (cxComp X scope N' cells C s H fp)) (S:CompScope X scope nT js N') (hi:PI0 Cc X tg iter wi)
  (hg:∀ cells C s H fp,PG (cxComp X scope N' cells C s H fp) tg g) (ht:∀ cells C s H fp,PIfs (cxComp X scope N' cells C s H fp) ifs tt) (he:∀ cells C s H fp,PE (cxComp X scope N' cells C s H fp) elt te)
  (hsw:swapsWith (.ListComp elt [⟨tg,iter,ifs,0⟩] scope pos) (some (.Name x pos')) spos.line X.env=pure true:=by rfl)
  (hs:∀ x,foldedSetIterable iter X.env x=pure x:=by intro _; rfl):PS X (.Assign [.Name x pos'] (.ListComp elt [⟨tg,iter,ifs,0⟩] scope pos) spos) (tAsg (tComp wi nT js g tt te) (gName i)):=by
 intro pins s σ H D I h
 rw [exec_Assign_Name_used _ _ _ _ hsw]
 refine wpAny_bind (wpAny_standAt (wpAny_bind ?_))
 show wpAny _ X.A (do let _ ← comprehension (.ListComp elt [⟨tg,iter,ifs,0⟩] scope pos) scope X.env _ (newList []) false (eval iter X.env) (some (assign (.Name x pos') X.env))) _ _ s
 refine wpAny_bind (wpAny_mono (comp_run (use:=some (assign (.Name x pos') X.env)) (Q:=fun _ s'=>SP X pins D .next s') hc S hi hg ht he I h (fun l C s' H' I' ⟨f,sz,m,n⟩ q=>?_) hs) (fun _ s' hq=>wpAny_pure (wpAny_pure hq)) fun _ _ e=>e)
 show wpAny _ _ (assign (.Name x pos') X.env (.ref l)) _ _ s'
 refine wpAny_assign_Name (store_ok2 I' hN hi' (.inl hx) (v:=.ref l) rfl (fun s'' I'' ⟨a,sb,ha⟩=>?_) (.inr hx))
 have hCa:C ≠ a:=by
  rcases ha with rfl | ha
  ·exact f.2.1
  ·exact fun z=>f.2.2.2.2.1 x a ha z.symm
 refine ⟨m,n.sameBut sb hCa,fun h' sb'=>⟨_,H',?_,q⟩⟩
 exact I''.turned (t':=s''.toks) (fun b o hb e=>(sb'.2 b hb).trans e) f.1 f.2.1 f.2.2.2.1 f.2.2.2.2.1 f.2.2.2.2.2
theorem ps_setComp {i:Nat} {x:Str} {pos' spos:Pos} (hN:X.N.Nodup) (hi':X.N[i]?=some x) (hx:X.env.scope.names.lookup x=some .local) (hc:X.calm=true) (S:CompScope X scope nT js N') (hi:PI X tg iter wi)
  (hg:∀ cells C s H fp,PG (cxComp X scope N' cells C s H fp) tg g) (ht:∀ cells C s H fp,PIfs (cxComp X scope N' cells C s H fp) ifs tt) (he:∀ cells C s H fp,PE (cxComp X scope N' cells C s H fp) elt te)
  (hsw:swapsWith (.ListComp elt [⟨tg,iter,ifs,0⟩] scope pos) (some (.Name x pos')) spos.line X.env=pure true:=by rfl)
  (hs:∀ x,foldedSetIterable iter X.env x=pure x:=by intro _; rfl):PS X (.Assign [.Name x pos'] (.ListComp elt [⟨tg,iter,ifs,0⟩] scope pos) spos) (tAsg (tComp wi nT js g tt te) (gName i)):=ps_setComp0 hN hi' hx (fun _ _ _ _ _=>hc) S hi hg ht he hsw hs
end
section
variable {js : List Nat} {tt : TT} {te : TE} {σ : St} {F : Addr → Hp → Prop}
theorem comp_list {K:PySem.W.Frag} {a:Addr} {xs:List V} {H1:Hp} (Pv:Addr→Nat→Hp→Prop)
  (h0:∀ l,H1 l=none→Pv l 0 (upd H1 l (.lst []))) (hl:∀ l i H,i ≤ xs.length→Pv l i H→SqL K H a xs)
  (hs:∀ l i x H,xs[i]?=some x→Pv l i H→tt (some x :: js.map fun j=>(σ[j]?).join) H fun b H4=>
   if b=true then te (some x :: js.map fun j=>(σ[j]?).join) H4 fun v H5=>∃ ys,H5 l=some (.lst ys)∧ys.length < sizeLine∧Pv l (i + 1) (upd H5 l (.lst (ys ++ [v]))) else Pv l (i + 1) H4)
  (hd:∀ l H,Pv l xs.length H→F l H):compRd 1 js (gName 0) tt te σ F (Itl K a) H1:=by
 intro l hl0
 refine ⟨fun i m σ' H=>m=xs.length - i∧i ≤ xs.length∧(∃ o,σ'=o :: js.map fun j=>(σ[j]?).join)∧Pv l i H,⟨xs.length,by simp,Nat.zero_le _,⟨none,rfl⟩,h0 l hl0⟩,?_⟩
 rintro i m σ' H ⟨rfl,hi,⟨o,rfl⟩,p⟩
 have q:=hl l i H hi p
 by_cases hlt:i < xs.length
 ·refine .inr ⟨⟨xs,xs[i],q,by simp [hlt]⟩,fun x H2 y=>?_⟩
  obtain ⟨e,y⟩:=y
  subst e
  refine ⟨Pv l (i + 1),fun v H5=>∃ ys,H5 l=some (.lst ys)∧ys.length < sizeLine∧Pv l (i + 1) (upd H5 l (.lst (ys ++ [v]))),fun H4 p4=>⟨xs.length - (i + 1),by omega,rfl,hlt,⟨some x,rfl⟩,p4⟩,
   fun v H5 ⟨ys,e1,e2,p5⟩=>⟨ys,e1,e2,xs.length - (i + 1),by omega,rfl,hlt,⟨some x,rfl⟩,p5⟩,hs l i x _ (y xs q) p⟩
 ·have e:i=xs.length:=by omega
  subst e
  exact .inl ⟨⟨xs,q,Nat.le_refl _⟩,hd l H p⟩
end
end L2
namespace L2
open PySem PySem.Spec PyProof.Rows
section
variable {X : Cx}
theorem call_isi:CallR X (.builtin "isinstance") (fun xs H Q=>∃ x t T b,xs=[x,.ty T]∧TyOf X.K H x t∧PySem.W.kitOne X.K t (.type T)=some b∧Q (.bl b) H):=by
 intro pins s σ H xs us Q I r h
 obtain ⟨x,t,T,b,rfl,ty,e,q⟩:=h
 obtain ⟨u,w',rfl,r1,r2⟩:=vals2 r
 cases r2
 exact isinst_ok I r1 ty e fun tk=>⟨.bl b,H,I.tok tk,rfl,q⟩
theorem boot_isinstance:bootBuiltins "isinstance"=some (.builtin "isinstance"):=by decide +kernel
theorem boot_min:bootBuiltins "min"=some (.builtin "min"):=by decide +kernel
structure EqK (K : PySem.W.Frag) {α : Type} [DecidableEq α] (R : Hp → V → α → Prop) (k : Nat) : Prop where
  eq : ∀ (X : Cx) (A : Around) (pins : List (Addr × Obj)) (s : Shared) (σ : St) (H : Hp) (x y : V) (v u : Value) (a b : α), X.K = K → Inv X pins σ H s → RelV x v → RelV y u → R H x a → R H y b → A.units + k < cLine → SeqAt.EqAt A s v u (decide (a = b))
  fn : ∀ (X : Cx) (pins : List (Addr × Obj)) (s : Shared) (σ : St) (H : Hp) (x : V) (a b : α), X.K = K → Inv X pins σ H s → R H x a → R H x b → a = b
def isI:Hp→V→Int→Prop:=fun _ x n=>x=.int n
theorem eqk_int {K:PySem.W.Frag}:EqK K isI 0 where
 eq:=by
  intro X A pins s σ H x y v u a b _ I rx ry ha hb _
  cases ha
  cases hb
  obtain ⟨t,rfl⟩:=rx
  obtain ⟨t',rfl⟩:=ry
  obtain ⟨e,h1,h2⟩:=HT.eqAt_int A s a t b t'
  have:e=decide (a=b):=by
   rw [Bool.eq_iff_iff,h2,decide_eq_true_iff]
  rw [← this]; exact h1
 fn:=by
  intro X pins s σ H x a b _ I ha hb
  cases ha
  cases hb
  rfl
def isLs (K:PySem.W.Frag) {α:Type} (R:Hp→V→α→Prop):Hp→V→List α→Prop:=fun H x as=>∃ p vs,x=.ref p∧SqL K H p vs∧Paired (R H) vs as
theorem Paired.at {α β:Type} {F:α→β→Prop}:∀ {l₁:List α} {l₂:List β} {i:Nat} {a:α},Paired F l₁ l₂→l₁[i]?=some a→∃ b,l₂[i]?=some b∧F a b
 | _,_,_,_,.nil,e=>by simp at e
 | _,_,0,_,.cons r _,e=>by simp at e; subst e; exact ⟨_,rfl,r⟩
 | _,_,i + 1,a,.cons _ t,e=>by
  obtain ⟨u,h1,h2⟩:=Paired.at (i:=i) (a:=a) t (by simpa using e)
  exact ⟨u,by simpa using h1,h2⟩
theorem Vals.at' {xs:List V} {us:List Value} {i:Nat} {u:Value} (r:Vals xs us) (h:us[i]?=some u):∃ x,xs[i]?=some x∧RelV x u:=by
 have hl:=r.length
 have hi:i < us.length:=(List.getElem?_eq_some_iff.mp h).1
 have e:xs[i]?=some xs[i]:=by simp
 obtain ⟨u',h1,h2⟩:=r.get e
 rw [h] at h1; cases h1
 exact ⟨_,e,h2⟩
theorem paired_uniq {α β:Type} {F:α→β→Prop} (f:∀ a b c,F a b→F a c→b=c):∀ {l:List α} {m n:List β},Paired F l m→Paired F l n→m=n
 | _,_,_,.nil,.nil=>rfl
 | _,_,_,.cons r t,.cons r' t'=>by rw [f _ _ _ r r',paired_uniq f t t']
section
variable {K : PySem.W.Frag} {α : Type} [DecidableEq α] {R : Hp → V → α → Prop} {k : Nat}
theorem isLs_fn (h:EqK K R k) {X:Cx} {pins:List (Addr × Obj)} {s:Shared} {σ:St} {H:Hp} {x:V} {as bs:List α} (hK:X.K=K) (I:Inv X pins σ H s) (ha:isLs K R H x as) (hb:isLs K R H x bs):as=bs:=by
 obtain ⟨p,vs,rfl,h1,h2⟩:=ha
 obtain ⟨q,ws,e,h3,h4⟩:=hb
 cases e
 subst hK
 have:=I.list_inj h1 h3
 subst this
 exact paired_uniq (fun a b c=>h.fn X pins s σ H a b c rfl I) h2 h4
theorem isLs_items (h:EqK K R k) {X:Cx} {A:Around} {pins:List (Addr × Obj)} {s:Shared} {σ:St} {H:Hp} {vs ws:List V} {its its2:List Value} {as bs:List α} (hK:X.K=K) (I:Inv X pins σ H s) (r1:Vals vs its) (r2:Vals ws its2) (p1:Paired (R H) vs as) (p2:Paired (R H) ws bs)
  (hl:its.length=its2.length) (hu:A.units + k < cLine):
  (∀ j (h1:j < its.toArray.size) (h2:j < its2.toArray.size),SeqAt.EqAt A s its.toArray[j] its2.toArray[j] (decide (as[j]?=bs[j]?)))∧(List.range its.toArray.size).all (fun j=>decide (as[j]?=bs[j]?))=decide (as=bs):=by
 have l1:=r1.length
 have l2:=r2.length
 have l3:=Paired.length p1
 have l4:=Paired.length p2
 refine ⟨fun j h1 h2=>?_,?_⟩
 ·rw [List.size_toArray] at h1 h2
  obtain ⟨x,ex,rx⟩:=r1.at' (i:=j) (u:=its[j]) (by simp)
  obtain ⟨y,ey,ry⟩:=r2.at' (i:=j) (u:=its2[j]) (by simp)
  obtain ⟨a,ea,ra⟩:=Paired.at p1 ex
  obtain ⟨b,eb,rb⟩:=Paired.at p2 ey
  have:=h.eq X A pins s σ H x y _ _ a b hK I rx ry ra rb hu
  rw [ea,eb]
  have e:decide (some a=some b)=decide (a=b):=by
   rw [Bool.eq_iff_iff,decide_eq_true_iff,decide_eq_true_iff]
   exact ⟨Option.some.inj,congrArg some⟩
  rw [e]
  simpa using this
 ·rw [List.size_toArray,Bool.eq_iff_iff,List.all_eq_true,decide_eq_true_iff]
  constructor
  ·intro hh
   apply List.ext_getElem?
   intro i
   by_cases hi:i < its.length
   ·exact of_decide_eq_true (hh i (List.mem_range.mpr hi))
   ·rw [List.getElem?_eq_none (by omega),List.getElem?_eq_none (by omega)]
  ·rintro rfl i _
   exact decide_eq_true rfl
theorem eqk_list (h:EqK K R k):EqK K (isLs K R) (k + 1) where
 eq:=by
  intro X A pins s σ H x y v u as bs hK I rx ry ha hb hu
  by_cases hxy:x=y
  ·subst hxy
   have e:=isLs_fn h hK I ha hb
   subst e
   obtain ⟨p,vs,rfl,h1,h2⟩:=ha
   cases rx
   cases ry
   rw [decide_eq_true rfl]
   exact SeqAt.EqAt.same _
  ·obtain ⟨p,vs,rfl,h1,h2⟩:=ha
   obtain ⟨q,ws,rfl,h3,h4⟩:=hb
   cases rx
   cases ry
   have hne:p ≠ q:=fun e=>hxy (by rw [e])
   subst hK
   obtain ⟨its,r1,pl,hz⟩:=I.list h1
   obtain ⟨its2,r2,pl2,hz2⟩:=I.list h3
   refine SeqAt.EqAt.of_refs hne ?_
   have l1:=r1.length
   have l2:=r2.length
   have l3:=Paired.length h2
   have l4:=Paired.length h4
   by_cases hl:its.length=its2.length
   ·obtain ⟨e1,e2⟩:=isLs_items (A:=A.in1) h rfl I r1 r2 h2 h4 hl (by rw [Around.in1_units]; omega)
    rw [← e2]
    exact SeqAt.RcAt.lists pl.isList pl2.isList (by simpa using hl) (by omega) e1
   ·have:decide (as=bs)=false:=by
     rw [decide_eq_false_iff_not]
     rintro rfl
     omega
    rw [this]
    exact SeqAt.RcAt.lists_lengths pl.isList pl2.isList (by simpa using hl) (by omega)
 fn:=fun X pins s σ H x as bs hK I ha hb=>isLs_fn h hK I ha hb
end
theorem op_eqL {α:Type} [DecidableEq α] {R:Hp→V→α→Prop} {k:Nat} (h:EqK X.K R k) (hu:X.A.units + (k + 1) < cLine):OpR X (compareOp .Eq) (fun x y H Q=>∃ as bs,isLs X.K R H x as∧isLs X.K R H y bs∧Q (.bl (decide (as=bs))) H):=by
 intro pins s σ H x y v u Q I rx ry hw
 obtain ⟨as,bs,ha,hb,q⟩:=hw
 obtain ⟨p,vs,rfl,h1,h2⟩:=ha
 obtain ⟨p',ws,rfl,h3,h4⟩:=hb
 cases rx
 cases ry
 obtain ⟨its,r1,pl,hz⟩:=I.list h1
 obtain ⟨its2,r2,pl2,hz2⟩:=I.list h3
 have l1:=r1.length
 have l2:=r2.length
 have l3:=Paired.length h2
 have l4:=Paired.length h4
 by_cases hl:its.length=its2.length
 ·obtain ⟨e1,e2⟩:=isLs_items (A:=X.A.in1) h rfl I r1 r2 h2 h4 hl (by rw [Around.in1_units]; omega)
  refine SeqAt.eq_listAt pl.isList pl2.isList (by simpa using hl) (by omega) e1 ?_
  rw [e2]
  exact ⟨.bl _,H,I,rfl,q⟩
 ·have:decide (as=bs)=false:=by
   rw [decide_eq_false_iff_not]
   rintro rfl
   omega
  rw [this] at q
  exact SeqAt.eq_list_lengthsAt pl.isList pl2.isList (by simpa using hl) (by omega) ⟨.bl _,H,I,rfl,q⟩
theorem op_neL {α:Type} [DecidableEq α] {R:Hp→V→α→Prop} {k:Nat} (h:EqK X.K R k) (hu:X.A.units + (k + 1) < cLine):OpR X (compareOp .NotEq) (fun x y H Q=>∃ as bs,isLs X.K R H x as∧isLs X.K R H y bs∧Q (.bl (!decide (as=bs))) H):=by
 intro pins s σ H x y v u Q I rx ry hw
 obtain ⟨as,bs,ha,hb,q⟩:=hw
 obtain ⟨p,vs,rfl,h1,h2⟩:=ha
 obtain ⟨p',ws,rfl,h3,h4⟩:=hb
 cases rx
 cases ry
 obtain ⟨its,r1,pl,hz⟩:=I.list h1
 obtain ⟨its2,r2,pl2,hz2⟩:=I.list h3
 have l1:=r1.length
 have l2:=r2.length
 have l3:=Paired.length h2
 have l4:=Paired.length h4
 by_cases hl:its.length=its2.length
 ·obtain ⟨e1,e2⟩:=isLs_items (A:=X.A.in1) h rfl I r1 r2 h2 h4 hl (by rw [Around.in1_units]; omega)
  refine SeqAt.RcNeAt.lists pl.isList pl2.isList (by simpa using hl) (by omega) e1 X.prog X.w X.xe _ ?_
  rw [e2]
  exact ⟨.bl _,H,I,rfl,q⟩
 ·have:decide (as=bs)=false:=by
   rw [decide_eq_false_iff_not]
   rintro rfl
   omega
  rw [this] at q
  exact SeqAt.RcNeAt.lists_lengths pl.isList pl2.isList (by simpa using hl) (by omega) X.prog X.w X.xe _ ⟨.bl _,H,I,rfl,q⟩
section
variable {prog : Program} {w : World} {A : Around} {E : Value → Shared → Prop} {s : Shared}
end
end
end L2
namespace L2
open PySem PySem.Spec PyProof.Rows
def Df (P:Program) (w:World) (K:PySem.W.Frag) (mg:Str→Option Value) (base:Heap) (k:Nat) (x:Str) (ps:List Str) (sp:Sp):Prop:=
 ∃ f fd,mg x=some (.ref f)∧PySem.W.keepIn K (.ref f)=true∧Binds K fd ps []∧FnOk P w K mg base CX0 k f fd ps sp
def Dm (P:Program) (w:World) (K:PySem.W.Frag) (mg:Str→Option Value) (base:Heap) (k:Nat) (C:Addr) (m:Str) (ps:List Str) (sp:Sp):Prop:=
 ∃ f fd,Cls K C∧Meth K C m f∧Binds K fd ps []∧FnOk P w K mg base CX0 k f fd ps sp
def Dk (P:Program) (w:World) (K:PySem.W.Frag) (mg:Str→Option Value) (base:Heap) (k:Nat) (x:Str) (C:Addr) (ps:List Str) (sp:Sp):Prop:=
 ∃ f fd,mg x=some (.ref C)∧Mk K C f∧Binds K fd ps []∧FnOk P w K mg base CX0 k f fd ps sp
section
variable {X : Cx} {k : Nat} {C : Addr} {ps : List Str} {sp : Sp} {x m : Str} {p pos apos : Pos} {e o : Expr} {es : List Expr} {ta : TE} {t : TA}
theorem pe_callD (D:Df X.prog X.w X.K X.mg X.base k x ps sp) (hr:Room k X.A) (hg:Gl X x)
  (ha:PA X (e :: es) t) (hdb:(x == ("__debug__":Str))=false:=by decide) (he:starEach (e :: es) X.env=(false,eval e X.env) :: starEach es X.env:=by rfl) (hpl:(backTo pos (starEach es X.env)).any (·.1)=false:=by rfl):
  PE X (.Call (.Name x p) (e :: es) [] pos) (tCall sp [] E0 t):=by
 obtain ⟨f,fd,hm,kp,b,F⟩:=D
 exact pe_call F hr hg hm kp b .nil pass0 ha hdb he hpl
theorem pe_methD {pl:Sem Bool} (he:PE X o ta) (D:Dm X.prog X.w X.K X.mg X.base k C m ps sp) (hr:Room k X.A) (ha:PA X (e :: es) t)
  (hst:starEach (e :: es) X.env=(false,eval e X.env) :: starEach es X.env:=by rfl) (hpl:(backTo pos (starEach es X.env)).any (·.1)=false:=by rfl)
  (ht:eval (.Call (.Attribute o m apos) (e :: es) [] pos) X.env=(do
   let ov ← eval o X.env
   standAt apos.atName
   let (f,first) ← holding [ov] (getMethod ov m pl)
   callWith pos f first (backTo pos (starEach (e :: es) X.env)) (backToKw pos (keywordEach [] X.env))):=by rfl):
  PE X (.Call (.Attribute o m apos) (e :: es) [] pos) (tMeth C m sp [] E0 ta t):=by
 obtain ⟨f,fd,cl,hm,b,F⟩:=D
 exact pe_meth he cl hm F hr b .nil pass0 ha hst hpl ht
theorem pe_makeD (D:Dk X.prog X.w X.K X.mg X.base k x C ps sp) (hr:Room (k + 1) X.A) (hg:Gl X x)
  (ha:PA X (e :: es) t) (hdb:(x == ("__debug__":Str))=false:=by decide) (he:starEach (e :: es) X.env=(false,eval e X.env) :: starEach es X.env:=by rfl) (hpl:(backTo pos (starEach es X.env)).any (·.1)=false:=by rfl):
  PE X (.Call (.Name x p) (e :: es) [] pos) (tMake C sp [] E0 t):=by
 obtain ⟨f,fd,hm,M,b,F⟩:=D
 exact pe_make M F hr hg hm b .nil pass0 ha hdb he hpl
end
def Fn0 (K:PySem.W.Frag) (x qual:Str) (st:Stmt):Prop:=∃ f fd,PySem.W.nsIn K mainGlobals x=some (some (.ref f))∧Fun K x qual st f fd
theorem fn0_mk {K:PySem.W.Frag} {x qual:Str} {st:Stmt} {f:Addr} {oc:Value} {od an:Option Addr} {osl:Array (Option Value)} {kV doc pm cdv ct:Value} (a:PySem.W.nsIn K mainGlobals x=some (some (.ref f)))
  (l:K.lookup f=some ⟨oc,od,.func (PySem.W.fnOf x qual (defArgs st) (defBody st) (defScope st) .none kV doc pm an cdv ct),osl⟩)
  (c:PySem.W.codeIn K cdv qual=true) (k:PySem.W.keepIn K (.ref f)=true):Fn0 K x qual st:=⟨f,_,a,fun_mk l c k⟩
def Me0 (K:PySem.W.Frag) (C:Addr) (m qual:Str) (st:Stmt):Prop:=∃ f fd,Meth K C m f∧Fun K m qual st f fd
theorem me0_mk {K:PySem.W.Frag} {C:Addr} {m qual:Str} {st:Stmt} {f:Addr} {oc:Value} {od an:Option Addr} {osl:Array (Option Value)} {kV doc pm cdv ct:Value} (a:PySem.W.findIn K (.ref C) m=some (some (.ref f))) (i:PySem.W.isFn K (.ref f)=true)
  (l:K.lookup f=some ⟨oc,od,.func (PySem.W.fnOf m qual (defArgs st) (defBody st) (defScope st) .none kV doc pm an cdv ct),osl⟩)
  (c:PySem.W.codeIn K cdv qual=true) (k:PySem.W.keepIn K (.ref f)=true):Me0 K C m qual st:=⟨f,_,⟨a,i,k⟩,fun_mk l c k⟩
end L2
set_option maxRecDepth 100000
namespace L2
open PySem PySem.Spec PyProof.Rows
theorem same_upd {H H2:Hp} {T:Addr} {o:HO} (e:Same H H2) (h:H2 T=Option.none):Same H (upd H2 T o):=fun b u hb=>by
 rw [upd_ne (ne_of_none (e b u hb) h)]
 exact e b u hb
theorem same_new {H H2:Hp} {T:Addr} {o:HO} (e:Same H H2) (h:H T=Option.none):Same H (upd H2 T o):=fun b u hb=>by
 rw [upd_ne (ne_of_none hb h)]
 exact e b u hb
def Rw (H:Hp) (x:V) (r:List Int):Prop:=∃ a,x=.ref a∧H a=some (.lst (r.map V.int))
def Tb (H:Hp) (x:V) (t:List (List Int)):Prop:=∃ a xs,x=.ref a∧H a=some (.lst xs)∧Paired (Rw H) xs t
theorem Rw.mono {H H':Hp} {x:V} {r:List Int} (e:Same H H') (h:Rw H x r):Rw H' x r:=let ⟨a,q1,q2⟩:=h; ⟨a,q1,e _ _ q2⟩
theorem Tb.mono {H H':Hp} {x:V} {t:List (List Int)} (e:Same H H') (h:Tb H x t):Tb H' x t:=let ⟨a,xs,q1,q2,q3⟩:=h; ⟨a,xs,q1,e _ _ q2,Paired.mapP q3 fun _ _ z=>z.mono e⟩
def RwN (H H':Hp) (x:V) (r:List Int):Prop:=∃ a,x=.ref a∧H a=none∧H' a=some (.lst (r.map V.int))
def TbN (H H':Hp) (l:Addr) (t:List (List Int)):Prop:=H l=none∧∃ xs,H' l=some (.lst xs)∧Paired (RwN H H') xs t
theorem RwN.rw {H H':Hp} {x:V} {r:List Int} (h:RwN H H' x r):Rw H' x r:=let ⟨a,q1,_,q2⟩:=h; ⟨a,q1,q2⟩
theorem TbN.tb {H H':Hp} {l:Addr} {t:List (List Int)} (h:TbN H H' l t):Tb H' (.ref l) t:=let ⟨_,xs,q1,q2⟩:=h; ⟨l,xs,rfl,q1,Paired.mapP q2 fun _ _ z=>z.rw⟩
theorem Paired.snoc' {α β:Type} {F:α→β→Prop} {a:α} {b:β} {l₁:List α} {l₂:List β} (r:Paired F l₁ l₂) (h:F a b):Paired F (l₁ ++ [a]) (l₂ ++ [b]):=Paired.snoc r h
theorem paired_ints:∀ (r:List Int),Paired (fun (x:V) n=>x=V.int n) (r.map V.int) r
 | []=>.nil
 | _ :: r=>.cons rfl (paired_ints r)
section
variable {js : List Nat} {te : TE} {σ : St} {F : Addr → Hp → Prop} {H : Hp}
abbrev caps (σ:St) (js:List Nat):St:=js.map fun j=>(σ[j]?).join
end
end L2
namespace L2
open PySem PySem.Spec PyProof.Rows
section
variable (K : PySem.W.Frag) {X : Cx} {pos : Pos}
theorem ixlK (h:X.K=K:=by rfl):IxR X (rIxL K):=h ▸ ix_list
theorem ixtK (h:X.K=K:=by rfl):IxR X (rIxT K):=h ▸ ix_tup
theorem pilK {tg l:Expr} {tl:TE} (hl:PE X l tl) (h:X.K=K:=by rfl):PI X tg l (iList K tl):=h ▸ pi_list hl
theorem pgtK {es:List Expr} {k:Nat} {t:TGs} {n:Nat} (hc:X.calm=true) (hh:PGs X es t) (h:X.K=K:=by rfl)
  (hn:(assignEach es X.env).length=n:=by rfl) (hst:(assignEach es X.env).findIdx? (·.1)=none:=by rfl):PG X (.Tuple es k pos) (gTup K n t):=h ▸ pg_tup hc hh hn hst
theorem lenK (h:X.K=K:=by rfl):CallR X (.builtin "len") (fun xs H Q=>∃ p ys,xs=[.ref p]∧(SqL K H p ys ∨ SqT K H p ys)∧Q (.int ys.length) H):=h ▸ call_len_seq
theorem isiK (h:X.K=K:=by rfl):CallR X (.builtin "isinstance") (fun xs H Q=>∃ x t T b,xs=[x,.ty T]∧TyOf K H x t∧PySem.W.kitOne K t (.type T)=some b∧Q (.bl b) H):=h ▸ call_isi
theorem fldK {e:Expr} {f:Str} {ta:TE} (he:PE X e ta) (hb:attributeBase e f X.env (eval e X.env)=eval e X.env) (h:X.K=K:=by rfl):PE X (.Attribute e f pos) (tFld K ta f):=h ▸ pe_fld he hb
theorem listK (h:X.K=K:=by rfl):CallR X (.type "list") (fun xs H Q=>∃ p ys,xs=[.ref p]∧(SqL K H p ys ∨ SqT K H p ys)∧∀ l,H l=none→Q (.ref l) (upd H l (.lst ys))):=h ▸ call_list_of
theorem inK (h:X.K=K:=by rfl):OpR X (compareOp .In) (rIn K false):=h ▸ op_in_seq
theorem notinK (h:X.K=K:=by rfl):OpR X (compareOp .NotIn) (rIn K true):=h ▸ op_notIn_seq
theorem bm0K {o:Expr} {to:TE} {name:Str} {apos cpos:Pos} {T id:String} {r:V→List V→Hp→VK→Prop} (pa:PlainAttrs T) (slot:Slot T name id) (hty:typeOf (.builtin id)=pure (.type "method_descriptor")) (hm:MtR X id r) (ho:PE X o to) (h:X.K=K:=by rfl)
  (hbase:attributeBase o name X.env (eval o X.env)=eval o X.env:=by rfl) (hline:(apos.endLine == cpos.line)=true:=by rfl):PE X (.Call (.Attribute o name apos) [] [] cpos) (tBM0 K T r to):=h ▸ pe_bm0 pa slot hty hm ho hbase hline
theorem bmK {o e:Expr} {es:List Expr} {to:TE} {t:TA} {name:Str} {apos cpos:Pos} {T id:String} {r:V→List V→Hp→VK→Prop} (pa:PlainAttrs T) (slot:Slot T name id) (hty:typeOf (.builtin id)=pure (.type "method_descriptor")) (hm:MtR X id r) (ho:PE X o to) (ha:PA X (e :: es) t) (h:X.K=K:=by rfl)
  (hbase:attributeBase o name X.env (eval o X.env)=eval o X.env:=by rfl)
  (hfew:((backTo cpos (starEach (e :: es) X.env)).all (fun x=>!x.1) && (backToKw cpos (keywordEach [] X.env)).all (fun x=>x.1.isSome)
   && decide ((e :: es).length + ([]:List Keyword).length + (if ([]:List Keyword).isEmpty then 0 else 1) < 30))=true:=by rfl)
  (hline:(apos.endLine == cpos.line)=true:=by rfl) (hs:starEach (e :: es) X.env=(false,eval e X.env) :: starEach es X.env:=by rfl) (hplain:(backTo cpos (starEach es X.env)).any (·.1)=false:=by rfl):
  PE X (.Call (.Attribute o name apos) (e :: es) [] cpos) (tBM K T r to t):=h ▸ pe_bm pa slot hty hm ho ha hbase hfew hline hs hplain
theorem eqLK {α:Type} [DecidableEq α] {R:Hp→V→α→Prop} {k:Nat} (hK:EqK K R k) (hu:X.A.units + (k + 1) < cLine) (h:X.K=K:=by rfl):OpR X (compareOp .Eq) (fun x y H Q=>∃ as bs,isLs K R H x as∧isLs K R H y bs∧Q (.bl (decide (as=bs))) H):=by
 subst h; exact op_eqL hK hu
theorem neLK {α:Type} [DecidableEq α] {R:Hp→V→α→Prop} {k:Nat} (hK:EqK K R k) (hu:X.A.units + (k + 1) < cLine) (h:X.K=K:=by rfl):OpR X (compareOp .NotEq) (fun x y H Q=>∃ as bs,isLs K R H x as∧isLs K R H y bs∧Q (.bl (!decide (as=bs))) H):=by
 subst h; exact op_neL hK hu
end
end L2
namespace L2
open PySem PySem.Spec PyProof.Rows
def tIfJ (c:TT) (t u:TS):TS:=fun D σ H=>∃ J:St→Hp→Prop,(∀ σ' H',J σ' H'→D.nx σ' H')∧c σ H fun b H1=>if b=true then t { D with nx:=J } σ H1 else u { D with nx:=J } σ H1
theorem ps_ifJ {X:Cx} {pos:Pos} {t u:TS} {c:Expr} {a b:List Stmt} {tc:TT} (hc:PT X c tc) (ha:PSs X a t) (hb:PSs X b u):PS X (.If c a b pos) (tIfJ tc t u):=by
 intro pins s σ H D I h
 obtain ⟨J,hJ,h⟩:=h
 refine thn (ps_if (pos:=pos) hc ha hb pins s σ H { D with nx:=J } I h) fun f s1 q=>?_
 cases f with
 | next=>obtain ⟨σ',H',I',q⟩:=q; exact ⟨σ',H',I',hJ _ _ q⟩
 | brk=>exact q
 | cont=>exact q
 | ret v=>exact q
section
variable {js : List Nat} {te : TE} {σ : St} {F : Addr → Hp → Prop} {H : Hp}
end
end L2
set_option maxRecDepth 100000
namespace L2
open PySem PySem.Spec PyProof.Rows
section
variable {X : Cx} {es : List Expr} {pos : Pos} {t : TA}
def NewQ (H:Hp) (o:HO) (Q:VK):Prop:=∀ p H2,Same H H2→H p=none→H2 p=some o→Q (.ref p) H2
theorem NewQ.at {H:Hp} {o:HO} {Q:VK} (h:NewQ H o Q) {p:Addr} (hp:H p=none):Q (.ref p) (upd H p o):=h p _ (same_upd (Same.refl _) hp) hp upd_same
def tTupS (t:TA):TE:=fun σ H Q=>t σ H fun xs H1=>xs.length ≤ sizeLine∧NewQ H1 (.tup xs) Q
def tLstS (t:TA):TE:=fun σ H Q=>t σ H fun xs H1=>xs.length ≤ sizeLine∧NewQ H1 (.lst xs) Q
theorem pe_tupS {x1} (h:PA X es t):PE X (.Tuple es x1 pos) (tTupS t):=by
 intro pins s σ H Q I hq
 refine wpAny_Tuple_spliced (thn (h pos pins s σ H _ I hq) fun us s1 ⟨xs,H1,I1,r,z,q⟩=>⟨by rw [← r.length]; exact z,?_⟩)
 have hf:H1 s1.heap.objs.size=none:=I1.hok.fresh (Nat.le_refl _)
 refine ⟨.ref s1.heap.objs.size,upd H1 s1.heap.objs.size (.tup xs),I1.laid (t':=s1.toks) (fun b u e=>Heap.get?_push_of_some _ e) (Nat.le_refl _) ?_,rfl,q.at hf⟩
 exact ⟨z,us,r,⟨_,Heap.get?_push_size _ rfl,rfl,_,rfl⟩⟩
theorem pe_lstS (h:PA X es t):PE X (.List es pos) (tLstS t):=by
 intro pins s σ H Q I hq
 refine wpAny_List_spliced (thn (h pos pins s σ H _ I hq) fun us s1 ⟨xs,H1,I1,r,z,q⟩=>⟨by rw [← r.length]; exact z,?_⟩)
 have hf:H1 s1.heap.objs.size=none:=I1.hok.fresh (Nat.le_refl _)
 refine ⟨.ref s1.heap.objs.size,upd H1 s1.heap.objs.size (.lst xs),I1.laid (t':=s1.toks) (fun b u e=>Heap.get?_push_of_some _ e) (Nat.le_refl _) ?_,rfl,q.at hf⟩
 exact ⟨z,us,0,r,Heap.get?_push_size _ rfl⟩
theorem OpR.imp {f:Value→Value→Sem Value} {r r':R2} (h:OpR X f r) (k:∀ x y H Q,r' x y H Q→r x y H Q):OpR X f r':=fun pins s σ H x y v u Q I rx ry q=>h pins s σ H x y v u Q I rx ry (k _ _ _ _ q)
theorem SlR.imp {r r':V→Option Int→Option Int→Hp→VK→Prop} (h:SlR X r) (k:∀ x l u H Q,r' x l u H Q→r x l u H Q):SlR X r':=fun pins s σ H x v vl vu lo hi sl Q I rx hs pl pu q=>h pins s σ H x v vl vu lo hi sl Q I rx hs pl pu (k _ _ _ _ _ q)
theorem CallR.imp {f:Value} {r r':List V→Hp→VK→Prop} (h:CallR X f r) (k:∀ xs H Q,r' xs H Q→r xs H Q):CallR X f r':=fun pins s σ H xs us Q I rx q=>h pins s σ H xs us Q I rx (k _ _ _ q)
def rCatS:R2:=fun x y H Q=>∃ l b xs zs,x=.ref l∧y=.ref b∧H l=some (.lst xs)∧H b=some (.lst zs)∧xs.length + zs.length ≤ sizeLine∧NewQ H (.lst (xs ++ zs)) Q
theorem op_catS:OpR X (binaryOp .Add) rCatS:=op_cat.imp fun _ _ _ _ ⟨l,b,xs,zs,h1,h2,h3,h4,h5,q⟩=>⟨l,b,xs,zs,h1,h2,h3,h4,h5,fun _ hp=>q.at hp⟩
def rSlLS (K:PySem.W.Frag):V→Option Int→Option Int→Hp→VK→Prop:=fun x lo hi H Q=>∃ a xs,x=.ref a∧SqL K H a xs∧NewQ H (.lst (cutV xs lo hi)) Q
theorem sllS (K:PySem.W.Frag) (h:X.K=K:=by rfl):SlR X (rSlLS K):=by
 subst h
 exact sl_list.imp fun _ _ _ _ _ ⟨a,xs,h1,h2,q⟩=>⟨a,xs,h1,h2,fun _ hp=>q.at hp⟩
theorem listS (K:PySem.W.Frag) (h:X.K=K:=by rfl):CallR X (.type "list") (fun xs H Q=>∃ p ys,xs=[.ref p]∧(SqL K H p ys ∨ SqT K H p ys)∧NewQ H (.lst ys) Q):=
 (listK K h).imp fun _ _ _ ⟨p,ys,h1,h2,q⟩=>⟨p,ys,h1,h2,fun _ hp=>q.at hp⟩
end
theorem ints_ls {K:PySem.W.Frag} {H:Hp} {a:Addr} {r:List Int} (h:H a=some (.lst (r.map V.int))):isLs K isI H (.ref a) r:=⟨a,_,rfl,SqL.of h,paired_ints r⟩
theorem Rw.ls {K:PySem.W.Frag} {H:Hp} {x:V} {r:List Int} (h:Rw H x r):isLs K isI H x r:=by
 obtain ⟨a,rfl,h⟩:=h
 exact ints_ls h
theorem Tb.ls {K:PySem.W.Frag} {H:Hp} {x:V} {t:List (List Int)} (h:Tb H x t):isLs K (isLs K isI) H x t:=by
 obtain ⟨a,xs,rfl,h,hp⟩:=h
 exact ⟨a,xs,rfl,SqL.of h,Paired.mapP hp fun _ _ z=>z.ls⟩
def hide (l:Addr) (H:Hp):Hp:=fun b=>if b=l then none else H b
theorem hide_ne {l b:Addr} {H:Hp} (h:b ≠ l):hide l H b=H b:=if_neg h
theorem hide_same {l:Addr} {H:Hp}:Same (hide l H) H:=fun b o h=>by
 by_cases e:b=l
 ·rw [hide,if_pos e] at h; cases h
 ·rwa [hide_ne e] at h
theorem hide_mono {l:Addr} {H H':Hp} (e:Same H H'):Same (hide l H) (hide l H'):=fun b o h=>by
 by_cases q:b=l
 ·rw [hide,if_pos q] at h; cases h
 ·rw [hide_ne q] at h ⊢; exact e _ _ h
theorem hide_upd {l:Addr} {H:Hp} {o:HO}:hide l (upd H l o)=hide l H:=by
 funext b
 by_cases q:b=l
 ·rw [hide,hide,if_pos q,if_pos q]
 ·rw [hide_ne q,hide_ne q,upd_ne q]
theorem hide_new {l b:Addr} {H H2:Hp} {o:HO} (hl:H l ≠ none) (hb:H b=none) (h:H2 b=some o):hide l H2 b=some o:=by
 rw [hide_ne (fun z=>hl (by rw [← z]; exact hb))]; exact h
theorem RwN.hide {l:Addr} {H H':Hp} {x:V} {r:List Int} (hl:H l ≠ none) (h:RwN H H' x r):Rw (L2.hide l H') x r:=let ⟨a,q1,q2,q3⟩:=h; ⟨a,q1,hide_new hl q2 q3⟩
theorem TbN.hide {l a:Addr} {H H':Hp} {t:List (List Int)} (hl:H l ≠ none) (h:TbN H H' a t):Tb (L2.hide l H') (.ref a) t:=by
 obtain ⟨h0,xs,h1,h2⟩:=h
 exact ⟨a,xs,rfl,hide_new hl h0 h1,Paired.mapP h2 fun _ _ z=>z.hide hl⟩
section
variable {js : List Nat} {te : TE} {σ : St} {F : Addr → Hp → Prop} {H : Hp}
theorem compP_list {K:PySem.W.Frag} {a:Addr} {xs:List V} (R:Nat→Hp→V→Prop) (mono:∀ i H H' v,Same H H'→R i H v→R i H' v) (ha:SqL K H a xs) (hz:xs.length ≤ 1000)
  (hs:∀ i x H2,xs[i]?=some x→Same H H2→te (some x :: caps σ js) H2 fun v H5=>(∀ l,H l=none→H2 l ≠ none→R i (hide l H5) v)∧Same H2 H5)
  (hd:∀ l H' vs,H l=none→Same H H'→H' l=some (.lst vs)→vs.length=xs.length→(∀ i v,vs[i]?=some v→R i (hide l H') v)→F l H'):compRd 1 js (gName 0) tYes te σ F (Itl K a) H:=by
 intro l hl0
 refine ⟨fun i m σ' H2=>m=xs.length - i∧i ≤ xs.length∧(∃ o,σ'=o :: caps σ js)∧Same H H2∧∃ vs:List V,vs.length=i∧H2 l=some (.lst vs)∧∀ i v,vs[i]?=some v→R i (hide l H2) v,⟨xs.length,by simp,Nat.zero_le _,⟨none,rfl⟩,same_upd (Same.refl _) hl0,[],rfl,upd_same,fun i v h=>by simp at h⟩,?_⟩
 rintro i m σ' H2 ⟨rfl,hi,⟨o,rfl⟩,e,vs,hlen,hl,hp⟩
 have q:SqL K H2 a xs:=e.seq ha
 by_cases hlt:i < xs.length
 ·refine .inr ⟨⟨xs,xs[i],q,by simp [hlt]⟩,fun x H3 y=>?_⟩
  obtain ⟨eH,y⟩:=y
  subst eH
  have ex:=y xs q
  refine ⟨fun _=>False,fun v H5=>(∀ l,H l=none→H3 l ≠ none→R i (hide l H5) v)∧Same H3 H5,fun H4 p4=>p4.elim,fun v H5 ⟨pv,e5⟩=>?_,hs i x _ ex e⟩
  refine ⟨_,e5 _ _ hl,by rw [hlen]; exact Nat.lt_of_le_of_lt hi (Nat.lt_of_le_of_lt hz (by decide)),_,?_,rfl,hlt,⟨_,rfl⟩,same_new (e.trans e5) hl0,vs ++ [v],by rw [List.length_append,hlen]; rfl,upd_same,fun j w hj=>?_⟩
  ·omega
  ·rw [hide_upd]
   by_cases c:j < vs.length
   ·rw [List.getElem?_append_left c] at hj
    exact mono _ _ _ _ (hide_mono e5) (hp j w hj)
   ·rw [List.getElem?_append_right (by omega)] at hj
    by_cases c2:j - vs.length=0
    ·rw [c2] at hj
     have:v=w:=by simpa using hj
     have ej:j=i:=by omega
     rw [ej,← this]
     exact pv l hl0 (by rw [hl]; exact fun z=>nomatch z)
    ·rw [List.getElem?_eq_none (by simp; omega)] at hj; cases hj
 ·have ei:i=xs.length:=by omega
  subst ei
  exact .inl ⟨⟨xs,q,Nat.le_refl _⟩,hd l H2 vs hl0 e hl hlen hp⟩
end
end L2
set_option maxRecDepth 100000
namespace L2
open PySem PySem.Spec PyProof.Rows
theorem cut_take (xs:List V) (k:Nat):cutV xs none (some (k:Int))=xs.take k:=by
 unfold cutV
 rw [HT.sIx_none,HT.sIx_nat,List.drop_zero,Nat.sub_zero]
 rw [List.take_eq_take_iff]
 omega
theorem cut_drop (xs:List V) (k:Nat):cutV xs (some (k:Int)) none=xs.drop k:=by
 unfold cutV
 rw [HT.sIx_none,HT.sIx_nat]
 rw [List.take_of_length_le (by rw [List.length_drop]; omega)]
 by_cases h:k ≤ xs.length
 ·rw [Nat.min_eq_left h]
 ·rw [Nat.min_eq_right (by omega),List.drop_eq_nil_of_le (Nat.le_refl _),List.drop_eq_nil_of_le (by omega)]
theorem iteNN {c A B:Prop} [Decidable c] (hc:¬ c) (h:A):if (!decide c)=true then A else B:=by
 rw [decide_eq_false hc]
 exact iteT h
section
variable {js : List Nat} {te : TE} {σ : St} {F : Addr → Hp → Prop} {H : Hp}
end
end L2
set_option maxRecDepth 100000
namespace L2
open PySem
def toldC (M:Model) (Γ:Ctx) (p:Pos) (k:Result→Sem Fin) (h:Option Value) (g:Bool) (l:List Value) (e:End) (s':Shared) (s1:Shared):End→Prop
 | .ret r=>Runs M Γ p (k r) [] s1 e s'
 | .susp v g0 l0 k0 c0 p0 fs=>e=.susp v g0 l0 k0 c0 p0 (fs ++ [.ret k h g l Γ.code p []])∧s'=s1
def toldR (M:Model) (Γ:Ctx) (r:Result) (fs:List Frame) (e:End) (s':Shared) (s1:Shared):Frame→Prop
 | .ret k _ _ _ c1 p1 _=>Runs M (Γ.goto c1) p1 (k r) fs s1 e s'
 | .gen g k _ c1 p1=>Runs M (Γ.goto c1) p1 (k (End.ret r).result) fs (s1.setGen g .finished) e s'
def toldF (M:Model) (Γ:Ctx) (F:Frame) (fs:List Frame) (e:End) (s':Shared) (s1:Shared):End→Prop
 | .ret r=>toldR M Γ r fs e s' s1 F
 | .susp v g0 l0 k0 c0 p0 fs0=>∀ o,splitAtGen (F :: fs)=o→match o with
  | none=>e=.susp v g0 l0 k0 c0 p0 (fs0 ++ F :: fs)∧s'=s1
  | some (pre,(g,k,c1,p1),rest)=>Runs M (Γ.goto c1) p1 (k (.yielded v)) rest (s1.setGen g (End.susp v g0 l0 k0 c0 p0 (fs0 ++ pre)).genState) e s'
def toldT (M:Model) (Γ:Ctx) (p:Pos) (s:Shared) (e:End) (s':Shared):Sem Fin→Prop
 | .pure (.done f)=>e=.ret (.ok f)∧s'=s
 | .pure (.again c)=>Runs M (Γ.goto c) p (M.den c) [] s e s'
 | .raise x=>e=.ret (.error x)∧s'=s
 | .rule _ k=>Runs M Γ p (k ()) [] s e s'
 | .at p' k=>Runs M Γ p' (k ()) [] s e s'
 | .load a _ k=>∀ o,s.heap.get? a=some o→Runs M Γ p (k o) [] s e s'
 | .update a _ f k=>Runs M Γ p (k ()) [] { s with heap:=s.heap.update a f } e s'
 | .loadIfAlive a k=>Runs M Γ p (k (s.heap.get? a)) [] s e s'
 | .point _ k=>Runs M Γ p (k ()) [] s e s'
 | .alloc o k=>Runs M Γ p (k s.heap.objs.size) [] { s with heap:=s.heap.push o } e s'
 | .fresh k=>Runs M Γ p (k s.toks) [] { s with toks:=s.toks + 1 } e s'
 | .ask k=>Runs M Γ p (k ⟨M.prog,M.w.params⟩) [] s e s'
 | .choose src n k=>Runs M Γ p (k (M.w.draws src (s.drawn.get src) % n)) [] { s with drawn:=s.drawn.bump src } e s'
 | .os q _ k=>Runs M Γ p (k (Os.step s.os q).2) [] { s with os:=(Os.step s.os q).1 } e s'
 | .handled own k=>Runs M Γ p (k (if own then Γ.own else Γ.handled)) [] s e s'
 | .genState g k=>∀ st,s.gens[g]?=some st→Runs M Γ p (k st.seen) [] s e s'
 | .stack k=>Runs M Γ p (k ((Γ.code,p) :: Γ.below)) [] s e s'
 | .thread k=>Runs M Γ p (k 0) [] s e s'
 | .newGen c k=>Runs M Γ p (k s.gens.size) [] { s with gens:=s.gens.push (.fresh c) } e s'
 | .call c h g l k=>∃ E s1,Runs M (Γ.enter c h p) p (M.den c) [] s E s1∧toldC M Γ p k h g l e s' s1 E
 | .yield v g l k=>e=.susp v g l k Γ.code p []∧s'=s
 | .resume g r _ k=>∃ res s1,Wakes M Γ p g r s res s1∧Runs M Γ p (k res) [] s1 e s'
 | _=>True
def told (M:Model) (Γ:Ctx) (p:Pos) (t:Sem Fin) (s:Shared) (e:End) (s':Shared):List Frame→Prop
 | []=>toldT M Γ p s e s' t
 | F :: fs=>∃ E s1,Runs M (Γ.over (F :: fs)) p t [] s E s1∧toldF M Γ F fs e s' s1 E
def toldW (M:Model) (Γ:Ctx) (p:Pos) (g:Nat) (s:Shared) (res:GenResult) (s':Shared) (c:Code):Resume→Prop
 | .send .none=>∃ e₁ s₁,Runs M (Γ.wake c p) p (M.den c) [] (s.setGen g .running) e₁ s₁∧e₁.quiet=true∧res=e₁.result∧s'=s₁.setGen g e₁.genState
 | .send _=>res=.justStarted∧s'=s
 | .throw x=>res=.raised x∧s'=s.setGen g .finished
def toldG (M:Model) (Γ:Ctx) (p:Pos) (g:Nat) (r:Resume) (s:Shared) (res:GenResult) (s':Shared):GenState→Prop
 | .fresh c=>toldW M Γ p g s res s' c r
 | .suspended k₀ _ c₀ p₀ fs _=>∃ e₁ s₁,Runs M (Γ.wake c₀ p) p₀ (k₀ r) fs (s.setGen g .running) e₁ s₁∧e₁.quiet=true∧res=e₁.result∧s'=s₁.setGen g e₁.genState
 | .running=>res=.running∧s'=s
 | .finished=>res=.finished∧s'=s
theorem wakes_iff {M:Model} {Γ:Ctx} {p:Pos} {g:Nat} {r:Resume} {s:Shared} {res:GenResult} {s':Shared} {st:GenState} (h:s.gens[g]?=some st):Wakes M Γ p g r s res s' ↔ toldG M Γ p g r s res s' st:=by
 unfold Wakes
 rw [h]
 cases st <;> exact Iff.rfl
theorem wakes_at {M:Model} {Γ:Ctx} {p:Pos} {g:Nat} {r:Resume} {s:Shared} {res:GenResult} {s':Shared} {st:GenState} (h:s.gens[g]?=some st) (x:Wakes M Γ p g r s res s'):toldG M Γ p g r s res s' st:=(wakes_iff h).1 x
theorem at_wakes {M:Model} {Γ:Ctx} {p:Pos} {g:Nat} {r:Resume} {s:Shared} {res:GenResult} {s':Shared} {st:GenState} (h:s.gens[g]?=some st) (x:toldG M Γ p g r s res s' st):Wakes M Γ p g r s res s':=(wakes_iff h).2 x
theorem started_at {M:Model} {Γ:Ctx} {p:Pos} {g:Nat} {s:Shared} {res:GenResult} {s':Shared} {c:Code} {v:Value} (hv:v ≠ .none):toldW M Γ p g s res s' c (.send v) ↔ (res=.justStarted∧s'=s):=by
 unfold toldW
 split
 ·next h=>cases h; exact absurd rfl hv
 ·exact Iff.rfl
 ·next h=>cases h
theorem runs_told {M:Model} {Γ:Ctx} {p:Pos} {t:Sem Fin} {fs:List Frame} {s:Shared} {e:End} {s':Shared} (h:Runs M Γ p t fs s e s'):told M Γ p t s e s' fs:=by
 cases h with
 | done=>exact ⟨rfl,rfl⟩
 | raise=>exact ⟨rfl,rfl⟩
 | again _ b=>exact b
 | rule b=>exact b
 | «at» b=>exact b
 | load g b=>exact fun o h=>Option.some.inj (g.symm.trans h) ▸ b
 | update _ b=>exact b
 | loadIfAlive b=>exact b
 | point b=>exact b
 | alloc b=>exact b
 | fresh b=>exact b
 | ask b=>exact b
 | choose _ b=>exact b
 | os b=>exact b
 | handled b=>exact b
 | genState g b=>exact fun o h=>Option.some.inj (g.symm.trans h) ▸ b
 | stack b=>exact b
 | thread b=>exact b
 | newGen b=>exact b
 | call a b=>exact ⟨_,_,a,b⟩
 | callSusp a=>exact ⟨_,_,a,rfl,rfl⟩
 | yield=>exact ⟨rfl,rfl⟩
 | resumeFresh g a q b=>exact ⟨_,_,at_wakes g ⟨_,_,a,q,rfl,rfl⟩,b⟩
 | resumeSuspended g a q b=>exact ⟨_,_,at_wakes g ⟨_,_,a,q,rfl,rfl⟩,b⟩
 | resumeJustStarted g nv b=>exact ⟨_,_,at_wakes g ((started_at nv).2 ⟨rfl,rfl⟩),b⟩
 | resumeThrowFresh g b=>exact ⟨_,_,at_wakes g ⟨rfl,rfl⟩,b⟩
 | resumeRunning g b=>exact ⟨_,_,at_wakes g ⟨rfl,rfl⟩,b⟩
 | resumeFinished g b=>exact ⟨_,_,at_wakes g ⟨rfl,rfl⟩,b⟩
 | segRet a b=>exact ⟨_,_,a,b⟩
 | segGen a b=>exact ⟨_,_,a,b⟩
 | segSuspOut n a=>exact ⟨_,_,a,fun o h=>by rw [n] at h; subst h; exact ⟨rfl,rfl⟩⟩
 | segSuspGen n a _ b=>exact ⟨_,_,a,fun o h=>by rw [n] at h; subst h; exact b⟩
theorem runs_one {M:Model} {Γ:Ctx} {p:Pos} {t:Sem Fin} {fs:List Frame} {s:Shared} {e:End} {s':Shared} (h1:Runs M Γ p t fs s e s'):∀ {e2:End} {s2:Shared},Runs M Γ p t fs s e2 s2→e=e2∧s'=s2:=by
 induction h1 with
 | done=>exact fun h2=>⟨(runs_told h2).1.symm,(runs_told h2).2.symm⟩
 | raise=>exact fun h2=>⟨(runs_told h2).1.symm,(runs_told h2).2.symm⟩
 | again _ _ ih=>exact fun h2=>ih (runs_told h2)
 | rule _ ih=>exact fun h2=>ih (runs_told h2)
 | «at» _ ih=>exact fun h2=>ih (runs_told h2)
 | load g _ ih=>exact fun h2=>ih (runs_told h2 _ g)
 | update _ _ ih=>exact fun h2=>ih (runs_told h2)
 | loadIfAlive _ ih=>exact fun h2=>ih (runs_told h2)
 | point _ ih=>exact fun h2=>ih (runs_told h2)
 | alloc _ ih=>exact fun h2=>ih (runs_told h2)
 | fresh _ ih=>exact fun h2=>ih (runs_told h2)
 | ask _ ih=>exact fun h2=>ih (runs_told h2)
 | choose _ _ ih=>exact fun h2=>ih (runs_told h2)
 | os _ ih=>exact fun h2=>ih (runs_told h2)
 | handled _ ih=>exact fun h2=>ih (runs_told h2)
 | genState g _ ih=>exact fun h2=>ih (runs_told h2 _ g)
 | stack _ ih=>exact fun h2=>ih (runs_told h2)
 | thread _ ih=>exact fun h2=>ih (runs_told h2)
 | newGen _ ih=>exact fun h2=>ih (runs_told h2)
 | call _ _ ih1 ih2=>
  intro e2 s2 h2
  obtain ⟨E,s1,a,b⟩:=runs_told h2
  obtain ⟨rfl,rfl⟩:=ih1 a
  exact ih2 b
 | callSusp _ ih1=>
  intro e2 s2 h2
  obtain ⟨E,s1,a,b⟩:=runs_told h2
  obtain ⟨rfl,rfl⟩:=ih1 a
  exact ⟨b.1.symm,b.2.symm⟩
 | yield=>exact fun h2=>⟨(runs_told h2).1.symm,(runs_told h2).2.symm⟩
 | resumeFresh g _ _ _ ih1 ih2=>
  intro e2 s2 h2
  obtain ⟨res,s1,w,b⟩:=runs_told h2
  obtain ⟨E,t1,a,_,rfl,rfl⟩:=wakes_at g w
  obtain ⟨rfl,rfl⟩:=ih1 a
  exact ih2 b
 | resumeSuspended g _ _ _ ih1 ih2=>
  intro e2 s2 h2
  obtain ⟨res,s1,w,b⟩:=runs_told h2
  obtain ⟨E,t1,a,_,rfl,rfl⟩:=wakes_at g w
  obtain ⟨rfl,rfl⟩:=ih1 a
  exact ih2 b
 | resumeJustStarted g nv _ ih=>
  intro e2 s2 h2
  obtain ⟨res,s1,w,b⟩:=runs_told h2
  obtain ⟨rfl,rfl⟩:=(started_at nv).1 (wakes_at g w)
  exact ih b
 | resumeThrowFresh g _ ih=>
  intro e2 s2 h2
  obtain ⟨res,s1,w,b⟩:=runs_told h2
  obtain ⟨rfl,rfl⟩:=wakes_at g w
  exact ih b
 | resumeRunning g _ ih=>
  intro e2 s2 h2
  obtain ⟨res,s1,w,b⟩:=runs_told h2
  obtain ⟨rfl,rfl⟩:=wakes_at g w
  exact ih b
 | resumeFinished g _ ih=>
  intro e2 s2 h2
  obtain ⟨res,s1,w,b⟩:=runs_told h2
  obtain ⟨rfl,rfl⟩:=wakes_at g w
  exact ih b
 | segRet _ _ ih1 ih2=>
  intro e2 s2 h2
  obtain ⟨E,s1,a,b⟩:=runs_told h2
  obtain ⟨rfl,rfl⟩:=ih1 a
  exact ih2 b
 | segGen _ _ ih1 ih2=>
  intro e2 s2 h2
  obtain ⟨E,s1,a,b⟩:=runs_told h2
  obtain ⟨rfl,rfl⟩:=ih1 a
  exact ih2 b
 | segSuspOut n _ ih1=>
  intro e2 s2 h2
  obtain ⟨E,s1,a,b⟩:=runs_told h2
  obtain ⟨rfl,rfl⟩:=ih1 a
  exact ⟨(b _ n).1.symm,(b _ n).2.symm⟩
 | segSuspGen n _ _ _ ih1 ih2=>
  intro e2 s2 h2
  obtain ⟨E,s1,a,b⟩:=runs_told h2
  obtain ⟨rfl,rfl⟩:=ih1 a
  exact ih2 (b _ n)
theorem wakes_one {M:Model} {Γ:Ctx} {p:Pos} {g:Nat} {r:Resume} {s:Shared} {a b:GenResult} {s1 s2:Shared} (h1:Wakes M Γ p g r s a s1) (h2:Wakes M Γ p g r s b s2):a=b∧s1=s2:=by
 unfold Wakes at h1 h2
 split at h1
 ·exact h1.elim
 ·next c hc=>
  rw [hc] at h2
  cases r with
  | send v=>
   by_cases hv:v=.none
   ·subst hv
    obtain ⟨e1,t1,r1,_,rfl,rfl⟩:=h1
    obtain ⟨e2,t2,r2,_,rfl,rfl⟩:=h2
    obtain ⟨x,y⟩:=runs_one r1 r2
    subst x y
    exact ⟨rfl,rfl⟩
   ·cases v <;> first | exact absurd rfl hv | (obtain ⟨rfl,rfl⟩:=h1; obtain ⟨rfl,rfl⟩:=h2; exact ⟨rfl,rfl⟩)
  | throw x=>
   obtain ⟨rfl,rfl⟩:=h1
   obtain ⟨rfl,rfl⟩:=h2
   exact ⟨rfl,rfl⟩
 ·next k0 l0 c0 p0 fs cl hc=>
  rw [hc] at h2
  obtain ⟨e1,t1,r1,_,rfl,rfl⟩:=h1
  obtain ⟨e2,t2,r2,_,rfl,rfl⟩:=h2
  obtain ⟨x,y⟩:=runs_one r1 r2
  subst x y
  exact ⟨rfl,rfl⟩
 ·next hc=>
  rw [hc] at h2
  obtain ⟨rfl,rfl⟩:=h1
  obtain ⟨rfl,rfl⟩:=h2
  exact ⟨rfl,rfl⟩
 ·next hc=>
  rw [hc] at h2
  obtain ⟨rfl,rfl⟩:=h1
  obtain ⟨rfl,rfl⟩:=h2
  exact ⟨rfl,rfl⟩
theorem wp_both {α:Type} {M:Model} {Γ:Ctx} {Q Q':α→Pos→Shared→Prop} {E E':Value→Pos→Shared→Prop} (t:Sem α):∀ {p:Pos} {s:Shared},Sem.wp M Γ t Q E p s→Sem.wp M Γ t Q' E' p s→Sem.wp M Γ t (fun a p s=>Q a p s∧Q' a p s) (fun e p s=>E e p s∧E' e p s) p s:=by
 induction t with
 | pure a=>intro p s h1 h2; rw [Sem.wp] at *; exact ⟨h1,h2⟩
 | raise e=>intro p s h1 h2; rw [Sem.wp] at *; exact ⟨h1,h2⟩
 | load a part k ih=>
  intro p s h1 h2
  rw [Sem.wp] at *
  obtain ⟨o,g,h1⟩:=h1
  obtain ⟨o2,g2,h2⟩:=h2
  rw [g] at g2
  cases g2
  exact ⟨o,g,ih o h1 h2⟩
 | update a part f k ih=>intro p s h1 h2; rw [Sem.wp] at *; exact ⟨h1.1,ih () h1.2 h2.2⟩
 | choose src n k ih=>intro p s h1 h2; rw [Sem.wp] at *; exact ⟨h1.1,ih _ h1.2 h2.2⟩
 | call c h g l k ih=>
  intro p s h1 h2
  rw [Sem.wp] at *
  obtain ⟨r,s1,r1,h1⟩:=h1
  obtain ⟨r',s1',r2,h2⟩:=h2
  obtain ⟨x,y⟩:=runs_one r1 r2
  cases x
  cases y
  exact ⟨r,s1,r1,ih r h1 h2⟩
 | genState g k ih=>
  intro p s h1 h2
  rw [Sem.wp] at *
  obtain ⟨o,g,h1⟩:=h1
  obtain ⟨o2,g2,h2⟩:=h2
  rw [g] at g2
  cases g2
  exact ⟨o,g,ih _ h1 h2⟩
 | resume g r l k ih=>
  intro p s h1 h2
  rw [Sem.wp] at *
  obtain ⟨r,s1,r1,h1⟩:=h1
  obtain ⟨r',s1',r2,h2⟩:=h2
  obtain ⟨x,y⟩:=wakes_one r1 r2
  cases x
  cases y
  exact ⟨r,s1,r1,ih r h1 h2⟩
 | _=>
  intro p s h1 h2
  rw [Sem.wp] at *
  first
   | exact h1.elim
   | (rename_i ih; exact ih _ h1 h2)
theorem any_both {α:Type} {M:Model} {A:Around} {t:Sem α} {Q Q':α→Shared→Prop} {E E':Value→Shared→Prop} {s:Shared} (h1:wpAny M A t Q E s) (h2:wpAny M A t Q' E' s):wpAny M A t (fun a s=>Q a s∧Q' a s) (fun e s=>E e s∧E' e s) s:=
 fun Γ p hΓ=>wp_both t (h1 Γ p hΓ) (h2 Γ p hΓ)
end L2
set_option maxRecDepth 100000
namespace L2
open PySem
theorem dict_fields (f:Array Value→Array Value) (o:Obj):(Obj.mapFields f o).dict=o.dict:=by
 unfold Obj.mapFields
 split <;> rfl
def DictIs (h:Heap) (e:Addr) (od:Option Addr):Prop:=∃ oe vs,h.get? e=some oe∧oe.data=.fields vs∧oe.dict=od∧vs[2]?=some .none
section
variable {M : Model} {A : Around} {E : Value → Shared → Prop} {s : Shared} {base : Heap} {env : Env} {outer : List Env} {L e : Addr} {oe : Obj} {vs : Array Value}
theorem flight_dict {od:Option Addr} {T:Addr} {oT:Obj} {ts:Array Value} (he:s.heap.get? e=some oe) (hd:oe.data=.fields vs) (h1:vs[1]?=some (.ref T)) (ne:T ≠ e) (hT:s.heap.get? T=some oT) (hdT:oT.data=.fields ts) (h3:3 < ts.size) (ho:oe.dict=od) (h2:vs[2]?=some .none):
  wpAny M A (setFlight (.ref e) none) (fun _ s'=>DictIs s'.heap e od) E s:=by
 unfold setFlight
 refine wpAny_bind (wpAny_field he hd h1 ?_)
 rw [if_pos (by simp)]
 refine wpAny_setField hT hdT h3 ⟨oe,vs,?_,hd,ho,h2⟩
 rw [Heap.get?_update_other _ _ ne]
 exact he
theorem entry_dict {head:Value} {hadNext:Bool} (hfr:A.frames=some (env :: outer)) (hl:s.heap.FunFrames base (env :: outer)) (hf:env.frame=some L) (he:s.heap.get? e=some oe) (hd:oe.data=.fields vs) (hz:1 < vs.size) (h2:vs[2]?=some .none):
  wpAny M A (do let a ← frameOf env; let pl ← entryPlaceOf L hadNext; let b ← EntryCells.newEntry head a .none (rawInt L) .none pl; setField (.ref e) 1 b) (fun _ s'=>wpAny M A (setFlight (.ref e) none) (fun _ s2=>DictIs s2.heap e oe.dict) E s') E s:=by
 have out:e ∉ (env :: outer).filterMap (·.frame):=fun hm=>by
  obtain ⟨_,o,ho,nf⟩:=hl.mem hm
  rw [he] at ho
  cases ho
  exact nf vs hd
 refine wpAny_bind (wpAny_frameOf_fun hfr hl hf fun h1 k1=>wpAny_bind (wpAny_entryPlaceOf fun pl hpl=>?_))
 have he1:h1.get? e=some oe:=(k1.2.1 e out).trans he
 unfold EntryCells.newEntry newFields
 refine wpAny_bind (wpAny_newObj_type ?_ (hpl.sizeOk5 _ _ _ _ _))
 have ne:h1.objs.size ≠ e:=Nat.ne_of_gt (Heap.lt_size he1)
 refine wpAny_setField (Heap.get?_push_of_some _ he1) hd hz ?_
 have hd2:=Obj.data_mapFields hd (·.setIfInBounds 1 (Value.ref h1.objs.size))
 refine flight_dict (Heap.get?_update_self _ (Heap.get?_push_of_some _ he1) (Obj.isFreed_of_fields hd2)) hd2 (T:=h1.objs.size) (by simp [hz]) ne ((Heap.get?_update_other _ _ (Ne.symm ne)).trans (Heap.get?_push_size h1 rfl)) rfl ?_ (dict_fields _ _) (by simpa [Array.getElem?_setIfInBounds] using h2)
 simp only [List.size_toArray,List.length_append,List.length_cons,List.length_nil]
 omega
theorem first_dict (hfr:A.frames=some (env :: outer)) (hl:s.heap.FunFrames base (env :: outer)) (hf:env.frame=some L) (he:s.heap.get? e=some oe) (hd:oe.data=.fields vs) (h1:vs[1]?=some .none) (h2:vs[2]?=some .none):
  wpAny M A (leaving env (.ref e)) (fun _ s'=>DictIs s'.heap e oe.dict) E s:=by
 unfold leaving noteFrame
 simp only [hf]
 refine wpAny_bind (wpAny_bind (wpAny_field he hd h1 ?_))
 rw [if_neg (by decide)]
 exact entry_dict hfr hl hf he hd (Array.getElem?_eq_some_iff.mp h1).1 h2
theorem next_dict {cls a0:Value} {od:Option Addr} (hfr:A.frames=some (env :: outer)) (hl:s.heap.FunFrames base (env :: outer)) (hf:env.frame=some L) (ht:s.heap.TracedW base e cls a0) (ho:DictIs s.heap e od) (hen:base.get? e=none):
  wpAny M A (leaving env (.ref e)) (fun _ s'=>DictIs s'.heap e od) E s:=by
 obtain ⟨oe,vs,T,oT,ts,he,_,hd,h1,hnT,ne,hT,hdT,h3⟩:=ht
 obtain ⟨oe2,vs2,he2,hd2',ho,h2⟩:=ho
 rw [he] at he2
 cases he2
 rw [hd] at hd2'
 cases hd2'
 unfold leaving noteFrame
 simp only [hf]
 refine wpAny_bind (wpAny_bind (wpAny_field he hd h1 ?_))
 rw [if_pos (by simp)]
 refine wpAny_bind (wpAny_field hT hdT h3 ?_)
 rw [if_neg (by simp [rawInt])]
 refine wpAny_bind (wpAny_setField hT hdT (Array.getElem?_eq_some_iff.mp h3).1 ?_)
 have oth:∀ b,b ≠ T→(s.heap.update T (Obj.mapFields (·.setIfInBounds 3 Value.none))).get? b=s.heap.get? b:=fun b hb=>Heap.get?_update_other _ _ (Ne.symm hb)
 have:=entry_dict (M:=M) (A:=A) (E:=E) (s:={ s with heap:=s.heap.update T (Obj.mapFields (·.setIfInBounds 3 Value.none)) }) (base:=base) (head:=.ref T) (hadNext:=true) hfr (hl.of_keeps fun b o hb nf=>⟨o,(oth b (fun z=>by rw [z,hT] at hb; cases hb; exact nf ts hdT)).trans hb,rfl⟩) hf ((oth e (Ne.symm ne)).trans he) hd (Array.getElem?_eq_some_iff.mp h1).1 h2
 rw [ho] at this
 exact this
theorem note_dict {cls a0:Value} {od:Option Addr} (hfr:A.frames=some (env :: outer)) (hl:s.heap.FunFrames base (env :: outer)) (hf:env.frame=some L) (ht:s.heap.TracedW base e cls a0) (ho:DictIs s.heap e od):
  wpAny M A (noteFrame (.ref e) env) (fun _ s'=>DictIs s'.heap e od) E s:=by
 obtain ⟨oe,vs,T,oT,ts,he,_,hd,h1,hnT,ne,hT,hdT,h3⟩:=ht
 obtain ⟨oe2,vs2,he2,hd2',ho,h2⟩:=ho
 rw [he] at he2
 cases he2
 rw [hd] at hd2'
 cases hd2'
 unfold noteFrame
 simp only [hf]
 refine wpAny_bind (wpAny_field he hd h1 ?_)
 rw [if_pos (by simp)]
 refine wpAny_bind (wpAny_field hT hdT h3 ?_)
 rw [if_neg (by simp [rawInt])]
 refine wpAny_bind (wpAny_setField hT hdT (Array.getElem?_eq_some_iff.mp h3).1 ?_)
 have oth:∀ b,b ≠ T→(s.heap.update T (Obj.mapFields (·.setIfInBounds 3 Value.none))).get? b=s.heap.get? b:=fun b hb=>Heap.get?_update_other _ _ (Ne.symm hb)
 have hl2:=hl.of_keeps (h':=s.heap.update T (Obj.mapFields (·.setIfInBounds 3 Value.none))) fun b o hb nf=>⟨o,(oth b (fun z=>by rw [z,hT] at hb; cases hb; exact nf ts hdT)).trans hb,rfl⟩
 have he2:=(oth e (Ne.symm ne)).trans he
 have out:e ∉ (env :: outer).filterMap (·.frame):=fun hm=>by
  obtain ⟨_,o,ho,nf⟩:=hl2.mem hm
  rw [he2] at ho
  cases ho
  exact nf vs hd
 refine wpAny_bind (wpAny_frameOf_fun hfr hl2 hf fun h1' k1=>wpAny_bind (wpAny_entryPlaceOf fun pl hpl=>?_))
 have he1:h1'.get? e=some oe:=(k1.2.1 e out).trans he2
 unfold EntryCells.newEntry newFields
 refine wpAny_bind (wpAny_newObj_type ?_ (hpl.sizeOk5 _ _ _ _ _))
 refine wpAny_setField (Heap.get?_push_of_some _ he1) hd (Array.getElem?_eq_some_iff.mp h1).1 ?_
 have hd2:=Obj.data_mapFields hd (·.setIfInBounds 1 (Value.ref h1'.objs.size))
 exact ⟨_,_,Heap.get?_update_self _ (Heap.get?_push_of_some _ he1) (Obj.isFreed_of_fields hd2),hd2,(dict_fields _ _).trans ho,by simpa [Array.getElem?_setIfInBounds] using h2⟩
theorem land_dict {cls a0 fl:Value} {od:Option Addr} (ht:s.heap.TracedAtW base e cls a0 fl) (ho:DictIs s.heap e od):wpAny M A (setFlight (.ref e) none) (fun _ s'=>DictIs s'.heap e od) E s:=by
 obtain ⟨oe,vs,T,oT,ts,he,_,hd,h1,hnT,ne,hT,hdT,h3⟩:=ht
 obtain ⟨oe2,vs2,he2,hd2',ho,h2⟩:=ho
 rw [he] at he2
 cases he2
 rw [hd] at hd2'
 cases hd2'
 exact flight_dict he hd h1 ne hT hdT (Array.getElem?_eq_some_iff.mp h3).1 ho h2
end
end L2
set_option maxRecDepth 100000
namespace L2
open PySem PySem.Spec PyProof.Rows
def CXE (P:Program) (w:World):CXT:=fun outer H s E e s'=>∃ (ea:Addr) (cls a0:Value) (B:Heap) (H':Hp) (od:Option Addr),DictIs s'.heap ea od∧e=.ref ea∧s'.os=s.os∧AllBare s'.gens∧Un (frs outer) [] H H' s.heap s'.heap∧HOk P w H' s'.heap∧H' ea=none∧s.heap.get? ea=none∧
 Heap.FlyingW B outer ea cls a0 s'.heap∧(∀ b o,s'.heap.get? b=some o→b ∉ frs outer→B.get? b=none→s.heap.get? b=none∧H' b=none)∧E cls od H'
theorem objOk_there {P:Program} {w:World} {H:Hp} {h:Heap} {a:Addr} {o:HO} (x:ObjOk P w H h a o):∃ ob,h.get? a=some ob:=by
 cases o with
 | lst xs=>obtain ⟨_,_,_,_,e⟩:=x; exact ⟨_,e⟩
 | tup xs=>obtain ⟨_,_,_,ob,e,_⟩:=x; exact ⟨_,e⟩
 | dK kvs=>obtain ⟨_,_,_,_,o,_,_,e,_⟩:=x; exact ⟨_,e⟩
 | dT kvs=>obtain ⟨_,_,_,_,o,_,_,e,_⟩:=x; exact ⟨_,e⟩
 | set S n=>obtain ⟨o,_,_,_,e,_⟩:=x; exact ⟨_,e⟩
 | ins C dx fs=>obtain ⟨_,_,_,e,_⟩:=x; exact ⟨_,e⟩
 | own y=>obtain ⟨_,e⟩:=x; exact ⟨_,e⟩
 | xd fs=>obtain ⟨_,⟨_,_,_,e,_⟩,_⟩:=x; exact ⟨_,e⟩
 | rng lo hi=>obtain ⟨_,_,_,e⟩:=x; exact ⟨_,e⟩
 | frz ob u=>obtain ⟨e,_⟩:=x; exact ⟨_,e⟩
 | tbl ps=>exact ⟨_,(show h.get? a=some _ from x)⟩
 | met f y=>exact ⟨_,(show h.get? a=some _ from x)⟩
 | ext φ=>obtain ⟨_,⟨_,e⟩,_⟩:=x; exact ⟨_,e⟩
theorem un_fly {P:Program} {w:World} {fs:List Addr} {H H':Hp} {h h1 h2 B:Heap} (u:Un fs [] H H' h h1) (hok:HOk P w H' h1) (hB1:B.StaysIn h1) (hB2:B.StaysIn h2) (up:h1.UpToSlots h2)
  (hfr:∀ b ∈ fs,∃ o,h1.get? b=some o∧∀ vs,o.data ≠ .fields vs) (frf:∀ b ∈ fs,H' b=none)
  (old:∀ b o,h1.get? b=some o→b ∉ fs→B.get? b=none→h.get? b=none∧H' b=none):
  Un fs [] H H' h h2∧HOk P w H' h2∧∀ b o,h2.get? b=some o→b ∉ fs→B.get? b=none→h.get? b=none∧H' b=none:=by
 have in1:∀ b o,h1.get? b=some o→b ∉ fs→(h.get? b ≠ none ∨ H' b ≠ none)→h2.get? b=some o:=fun b o e hb hn=>by
  cases q:B.get? b with
  | none=>
   have z:=old b o e hb q
   rcases hn with hn | hn
   ·exact absurd z.1 hn
   ·exact absurd z.2 hn
  | some o2=>
   have:=hB1 b o2 q
   rw [e] at this
   cases this
   exact hB2 b _ q
 have slots:∀ b o,h1.get? b=some o→b ∈ fs→∃ sl,h2.get? b=some { o with slots:=sl }:=fun b o e hb=>by
  obtain ⟨o',e',hd⟩:=hfr b hb
  rw [e] at e'
  cases e'
  exact up b o e hd
 refine ⟨⟨fun b o e n hb hx=>?_,fun b o e n hb hx=>?_,u.free,fun b o e hx=>?_,u.tups,u.frzs,u.tbls⟩,fun a v e=>?_,fun b o e hb hB=>⟨?_,?_⟩⟩
 ·exact in1 b o (u.keep b o e n hb hx) hb (.inl (by rw [e]; exact fun z=>nomatch z))
 ·obtain ⟨sl,e1⟩:=u.slot b o e n hb hx
  obtain ⟨sl',e2⟩:=slots b _ e1 hb
  exact ⟨sl',e2⟩
 ·obtain ⟨o',e1⟩:=u.there b o e hx
  by_cases hb:b ∈ fs
  ·obtain ⟨sl,e2⟩:=slots b o' e1 hb
   exact ⟨_,e2⟩
  ·exact ⟨o',in1 b o' e1 hb (.inl (by rw [e]; exact fun z=>nomatch z))⟩
 ·refine (hok a v e).stay (fun c v' hc q=>in1 c v' q (fun z=>?_) (.inr ?_)) (fun _ q=>q) fun _ _ q=>q
  ·have:=frf c z
   rcases hc with rfl | hc
   ·rw [e] at this; cases this
   ·rw [hc] at this; cases this
  ·rcases hc with rfl | hc
   ·rw [e]; exact fun z=>nomatch z
   ·rw [hc]; exact fun z=>nomatch z
 ·cases q:h.get? b with
  | none=>rfl
  | some o'=>
   obtain ⟨o2,e2⟩:=u.there b o' q (by simp)
   have:=(old b o2 e2 hb hB).1
   rw [q] at this; cases this
 ·cases q:H' b with
  | none=>rfl
  | some v=>
   obtain ⟨o2,e2⟩:=objOk_there (hok b v q)
   have:=(old b o2 e2 hb hB).2
   rw [q] at this; cases this
structure Own (X : Cx) : Prop where
  stk : X.stack = X.env :: X.outer
  frm : X.env.frame = some X.env.locals
  exs : X.ex = []
theorem Own.frs {X:Cx} (O:Own X):L2.frs X.stack=X.env.locals :: X.fs:=by
 rw [O.stk]
 unfold L2.frs
 rw [List.filterMap_cons,O.frm]
 rfl
theorem un_leave {X:Cx} {pins:List (Addr × Obj)} {σ:St} {H:Hp} {s:Shared} {h2 B:Heap} (O:Own X) (I:Inv X pins σ H s) (hB1:B.StaysIn s.heap) (hB2:B.StaysIn h2) (up:s.heap.UpToSlots h2)
  (old:∀ b o,s.heap.get? b=some o→b ∉ frs X.stack→B.get? b=none→X.s₀.heap.get? b=none∧H b=none):
  Un X.fs [] X.H₀ H X.s₀.heap h2∧HOk X.prog X.w H h2∧∀ b o,h2.get? b=some o→b ∉ X.fs→B.get? b=none→X.s₀.heap.get? b=none∧H b=none:=by
 have neL:∀ b o,X.s₀.heap.get? b=some o→b ≠ X.env.locals:=fun b o e=>Nat.ne_of_lt (Nat.lt_of_lt_of_le (Heap.lt_size e) I.ok.above)
 have nofr:∀ b,b ≠ X.env.locals→b ∉ X.fs→b ∉ frs X.stack:=fun b h1 h2 z=>by
  rw [O.frs] at z
  rcases List.mem_cons.mp z with z | z
  ·exact h1 z
  ·exact h2 z
 have in1:∀ b o,s.heap.get? b=some o→b ∉ frs X.stack→(X.s₀.heap.get? b ≠ none ∨ H b ≠ none)→h2.get? b=some o:=fun b o e hb hn=>by
  cases q:B.get? b with
  | none=>
   have z:=old b o e hb q
   rcases hn with hn | hn
   ·exact absurd z.1 hn
   ·exact absurd z.2 hn
  | some o2=>
   have:=hB1 b o2 q
   rw [e] at this
   cases this
   exact hB2 b _ q
 have slots:∀ b o,s.heap.get? b=some o→b ∈ X.fs→∃ sl,h2.get? b=some { o with slots:=sl }:=fun b o e hb=>by
  obtain ⟨_,o',e',hd⟩:=I.funs.mem hb
  rw [e] at e'
  cases e'
  exact up b o e hd
 have nx:∀ b,b ∉ X.ex:=fun b=>by rw [O.exs]; simp
 refine ⟨⟨fun b o e n hb hx=>?_,fun b o e n hb hx=>?_,fun b o e n hx=>I.base.free b o e n (nx b),fun b o e hx=>?_,I.base.tups,I.base.frzs,I.base.tbls⟩,fun a v e=>?_,fun b o e hb hB=>⟨?_,?_⟩⟩
 ·exact in1 b o (I.base.keep b o e n hb (nx b)) (nofr b (neL b o e) hb) (.inl (by rw [e]; exact fun z=>nomatch z))
 ·obtain ⟨sl,e1⟩:=I.base.slot b o e n hb (nx b)
  obtain ⟨sl',e2⟩:=slots b _ e1 hb
  exact ⟨sl',e2⟩
 ·obtain ⟨o',e1⟩:=I.base.there b o e (nx b)
  by_cases hb:b ∈ X.fs
  ·obtain ⟨sl,e2⟩:=slots b o' e1 hb
   exact ⟨_,e2⟩
  ·exact ⟨o',in1 b o' e1 (nofr b (neL b o e) hb) (.inl (by rw [e]; exact fun z=>nomatch z))⟩
 ·refine (I.hok a v e).stay (fun c v' hc q=>in1 c v' q (fun z=>?_) (.inr ?_)) (fun _ q=>q) fun _ _ q=>q
  ·have:=I.stkFree c z
   rcases hc with rfl | hc
   ·rw [e] at this; cases this
   ·rw [hc] at this; cases this
  ·rcases hc with rfl | hc
   ·rw [e]; exact fun z=>nomatch z
   ·rw [hc]; exact fun z=>nomatch z
 ·cases q:X.s₀.heap.get? b with
  | none=>rfl
  | some o'=>
   obtain ⟨o2,e2⟩:=I.base.there b o' q (nx b)
   have:=(old b o2 e2 (nofr b (neL b o' q) hb) hB).1
   rw [q] at this; cases this
 ·cases q:H b with
  | none=>rfl
  | some v=>
   obtain ⟨o2,e2⟩:=objOk_there (I.hok b v q)
   have nf:b ∉ frs X.stack:=fun z=>by rw [I.stkFree b z] at q; cases q
   have:=(old b o2 e2 nf hB).2
   rw [q] at this; cases this
section
variable {X : Cx} {pins : List (Addr × Obj)} {σ : St} {H : Hp} {s s' : Shared} {ea : Addr} {cls : Value} {h' : Heap} {E : XK} {E2 : Value → Shared → Prop}
theorem leave_made {vs:List Value} (O:Own X) (I:Inv X pins σ H s) (mk:Heap.MadeExcOf s.heap h' ea cls vs) (h:E cls none H):
  wpAny (model X.prog X.w) X.A (leaving X.env (.ref ea)) (fun _ s''=>CXE X.prog X.w X.outer X.H₀ X.s₀ E (.ref ea) s'') E2 { s with heap:=h' }:=by
 have hin:∀ env ∈ X.stack,∀ b,env.frame=some b→b ∈ frs X.stack:=fun env he b hb=>List.mem_filterMap.mpr ⟨env,he,hb⟩
 have hl:s.heap.FunFrames (PySem.W.hideAll s.heap (frs X.stack)) X.stack:=PySem.W.funFrames_hide I.stack hin
 rw [O.stk] at hl
 have hB1:(PySem.W.hideAll s.heap (frs X.stack)).StaysIn s.heap:=fun b o q=>PySem.W.of_hideAll _ q
 have hH:H ea=none:=by
  cases q:H ea with
  | none=>rfl
  | some v=>
   obtain ⟨o,e⟩:=objOk_there (I.hok ea v q)
   rw [mk.new] at e; cases e
 obtain ⟨t,he,htn,ht⟩:=mk.there
 have hl':h'.FunFrames (PySem.W.hideAll s.heap (frs X.stack)) (X.env :: X.outer):=by
  rw [O.stk] at *
  exact hl.of_keeps fun b o hb _=>⟨o,mk.keeps b o hb,rfl⟩
 refine wpAny_mono (any_both (E':=E2) (wpAny_leaves_madeW (E:=E2) (Q:=fun _ s''=>∃ (a0:Value) (B:Heap) (H':Hp),H'=H∧s''.os=X.s₀.os∧AllBare s''.gens∧Un (frs X.outer) [] X.H₀ H' X.s₀.heap s''.heap∧HOk X.prog X.w H' s''.heap∧H' ea=none∧X.s₀.heap.get? ea=none∧
   Heap.FlyingW B X.outer ea cls a0 s''.heap∧(∀ b o,s''.heap.get? b=some o→b ∉ frs X.outer→B.get? b=none→X.s₀.heap.get? b=none∧H' b=none))
  (s:={ s with heap:=h' }) (base:=PySem.W.hideAll s.heap (frs X.stack)) (by rw [I.ok.frames,O.stk]) O.frm hB1 (by rw [O.stk] at *; exact hl) mk fun h'' t fl tu tn up=>?_)
  (first_dict (E:=E2) (s:={ s with heap:=h' }) (by rw [I.ok.frames,O.stk]) hl' O.frm he rfl rfl rfl)) (fun _ s'' z=>?_) (fun _ _ z=>z.1)
 ·have up2:s.heap.UpToSlots h'':=(Heap.UpToSlots.of_keeps mk.keeps).trans up
  obtain ⟨u,hok,old⟩:=un_leave O I hB1 fl.1 up2 (fun b o e hb hB=>by
   rw [PySem.W.hideAll_get _ e hb] at hB; cases hB)
  have hs0:X.s₀.heap.get? ea=none:=by
   cases q:X.s₀.heap.get? ea with
   | none=>rfl
   | some o=>
    obtain ⟨o',e⟩:=I.base.there ea o q (by rw [O.exs]; simp)
    rw [mk.new] at e; cases e
  exact ⟨_,_,H,rfl,I.os,I.bare,u,hok,hH,hs0,fl,old⟩
 ·obtain ⟨⟨a0,B,H',rfl,z⟩,hd⟩:=z
  exact ⟨ea,cls,a0,B,H',none,hd,rfl,z.1,z.2.1,z.2.2.1,z.2.2.2.1,z.2.2.2.2.1,z.2.2.2.2.2.1,z.2.2.2.2.2.2.1,z.2.2.2.2.2.2.2,h⟩
theorem leave_dict {oe:Obj} {vs:Array Value} {a0:Value} (O:Own X) (I:Inv X pins σ H s) (he:s.heap.get? ea=some oe) (hd:oe.data=.fields vs) (h0:vs[0]?=some a0) (h1:vs[1]?=some .none) (h2:vs[2]?=some .none) (hH:H ea=none) (hs0:X.s₀.heap.get? ea=none) (h:E oe.cls oe.dict H):
  wpAny (model X.prog X.w) X.A (leaving X.env (.ref ea)) (fun _ s''=>CXE X.prog X.w X.outer X.H₀ X.s₀ E (.ref ea) s'') E2 s:=by
 have hin:∀ env ∈ X.stack,∀ b,env.frame=some b→b ∈ ea :: frs X.stack:=fun env he b hb=>List.mem_cons_of_mem _ (List.mem_filterMap.mpr ⟨env,he,hb⟩)
 have hl:s.heap.FunFrames (PySem.W.hideAll s.heap (ea :: frs X.stack)) X.stack:=PySem.W.funFrames_hide I.stack hin
 have hB1:(PySem.W.hideAll s.heap (ea :: frs X.stack)).StaysIn s.heap:=fun b o q=>PySem.W.of_hideAll _ q
 have hB:(PySem.W.hideAll s.heap (ea :: frs X.stack)).get? ea=none:=PySem.W.hideAll_none _ (List.mem_cons_self ..)
 have hfr:X.A.frames=some (X.env :: X.outer):=by rw [I.ok.frames,O.stk]
 have hl2:s.heap.FunFrames (PySem.W.hideAll s.heap (ea :: frs X.stack)) (X.env :: X.outer):=by rw [O.stk] at hl ⊢; exact hl
 refine wpAny_mono (any_both (E':=E2) (wpAny_leaving_firstW (E:=E2) (Q:=fun _ s''=>∃ (B:Heap),s''.os=X.s₀.os∧AllBare s''.gens∧Un (frs X.outer) [] X.H₀ H X.s₀.heap s''.heap∧HOk X.prog X.w H s''.heap∧
   Heap.FlyingW B X.outer ea oe.cls a0 s''.heap∧(∀ b o,s''.heap.get? b=some o→b ∉ frs X.outer→B.get? b=none→X.s₀.heap.get? b=none∧H b=none))
  hfr hl2 O.frm he hB1 hB hd h1 h0 fun h'' hL=>?_) (first_dict (E:=E2) hfr hl2 O.frm he hd h1 h2)) (fun _ s'' z=>?_) (fun _ _ z=>z.1)
 ·obtain ⟨k1,⟨_,_,k2⟩,k3,k4⟩:=hL
  obtain ⟨u,hok,old⟩:=un_leave O I hB1 k1 k4 (fun b o e hb hBb=>by
   by_cases hbe:b=ea
   ·rw [hbe]; exact ⟨hs0,hH⟩
   ·rw [PySem.W.hideAll_get _ e (fun z=>by rcases List.mem_cons.mp z with z | z; exact hbe z; exact hb z)] at hBb; cases hBb)
  exact ⟨_,I.os,I.bare,u,hok,⟨k1,hB,k2,k3⟩,old⟩
 ·obtain ⟨⟨B,z⟩,hdi⟩:=z
  exact ⟨ea,oe.cls,a0,B,H,oe.dict,hdi,rfl,z.1,z.2.1,z.2.2.1,z.2.2.2.1,hH,hs0,z.2.2.2.2.1,z.2.2.2.2.2,h⟩
theorem leave_on {Hc:Hp} {e:Value} (O:Own X) (I:Inv X pins σ Hc s) (h:CXE X.prog X.w X.stack Hc s E e s'):
  wpAny (model X.prog X.w) X.A (leaving X.env e) (fun _ s''=>CXE X.prog X.w X.outer X.H₀ X.s₀ E e s'') E2 s':=by
 obtain ⟨ea,cls,a0,B,H',od,di,rfl,os,bare,u,hok,hea,hsc,fl,old,hE⟩:=h
 have I1:Inv X pins σ H' s':=I.call' os u hok bare fun b z=>absurd z (by simp)
 have fl':=fl
 rw [O.stk] at fl'
 have hfr:X.A.frames=some (X.env :: X.outer):=by rw [I.ok.frames,O.stk]
 refine wpAny_mono (any_both (E':=E2) (wpAny_leaves_onW (E:=E2) (Q:=fun _ s''=>s''.os=X.s₀.os∧AllBare s''.gens∧Un (frs X.outer) [] X.H₀ H' X.s₀.heap s''.heap∧HOk X.prog X.w H' s''.heap∧
   Heap.FlyingW B X.outer ea cls a0 s''.heap∧(∀ b o,s''.heap.get? b=some o→b ∉ frs X.outer→B.get? b=none→X.s₀.heap.get? b=none∧H' b=none))
  hfr O.frm fl' fun h'' fl2 up=>?_) (next_dict (E:=E2) hfr fl'.2.2.1 O.frm fl'.2.2.2 di fl'.2.1)) (fun _ s'' z=>?_) (fun _ _ z=>z.1)
 ·obtain ⟨u2,hok2,old2⟩:=un_leave O I1 fl.1 fl2.1 up (fun b o e hb hB=>by
   obtain ⟨z1,z2⟩:=old b o e hb hB
   refine ⟨?_,z2⟩
   cases q:X.s₀.heap.get? b with
   | none=>rfl
   | some o'=>
    obtain ⟨o2,e2⟩:=I.base.there b o' q (by rw [O.exs]; simp)
    rw [z1] at e2; cases e2)
  exact ⟨I1.os,I1.bare,u2,hok2,fl2,old2⟩
 ·obtain ⟨z,hdi⟩:=z
  have hs0:X.s₀.heap.get? ea=none:=by
   cases q:X.s₀.heap.get? ea with
   | none=>rfl
   | some o=>
    obtain ⟨o',e⟩:=I.base.there ea o q (by rw [O.exs]; simp)
    rw [hsc] at e; cases e
  exact ⟨ea,cls,a0,B,H',od,hdi,rfl,z.1,z.2.1,z.2.2.1,z.2.2.2.1,hea,hs0,z.2.2.2.2.1,z.2.2.2.2.2,hE⟩
end
end L2
set_option maxRecDepth 100000
namespace L2
open PySem PySem.Spec PyProof.Rows
def ThrOn (X:Cx) (W:St→XK):Prop:=∀ (pins:List (Addr × Obj)) (σ:St) (H:Hp) (s:Shared) (e:Value) (s':Shared),Inv X pins σ H s→CXE X.prog X.w X.stack H s (W σ) e s'→X.xe e s'
def ThrMade (X:Cx) (W:St→XK):Prop:=∀ (pins:List (Addr × Obj)) (σ:St) (H:Hp) (s:Shared) (h':Heap) (ea:Addr) (cls:Value) (vs:List Value),Inv X pins σ H s→Heap.MadeExcOf s.heap h' ea cls vs→W σ cls none H→X.xe (.ref ea) { s with heap:=h' }
def ThrDict (X:Cx) (W:St→XK):Prop:=∀ (pins:List (Addr × Obj)) (σ:St) (H:Hp) (s:Shared) (ea:Addr) (oe:Obj) (vs:Array Value) (a0:Value),Inv X pins σ H s→s.heap.get? ea=some oe→oe.data=.fields vs→vs[0]?=some a0→vs[1]?=some .none→vs[2]?=some .none→H ea=none→X.s₀.heap.get? ea=none→W σ oe.cls oe.dict H→X.xe (.ref ea) s
section
variable {P : Program} {w : World} {K : PySem.W.Frag} {mg : Str → Option Value} {base : Heap} {N : List Str} {qual : Str} {scope : Scope} {f : Addr} {cd : Value} {A : Around} {outer : List Env} {s : Shared} {H : Hp} {E : XK}
theorem own_def {CX:CXT}:Own (cxOf CX P w K mg base N qual scope f cd A outer s H E):=⟨rfl,rfl,rfl⟩
theorem on_def:ThrOn (cxOf (CXE P w) P w K mg base N qual scope f cd A outer s H E) (fun _=>E):=fun pins σ Hc sc e s' I h=>leave_on own_def I h
theorem made_def:ThrMade (cxOf (CXE P w) P w K mg base N qual scope f cd A outer s H E) (fun _=>E):=fun pins σ Hc sc h' ea cls vs I mk h=>leave_made own_def I mk h
theorem dict_def:ThrDict (cxOf (CXE P w) P w K mg base N qual scope f cd A outer s H E) (fun _=>E):=fun pins σ Hc sc ea oe vs a0 I he hd h0 h1 h2 hH hs h=>leave_dict own_def I he hd h0 h1 h2 hH hs h
theorem Fun.okX {x:Str} {st:Stmt} {fd:FuncData} {ps:List Str} {k:Nat} {sp:Sp} (F:Fun K x qual st f fd) (S:FnScope N ps (defScope st)) (len:∀ vs H Q E,sp vs H Q E→vs.length=ps.length)
  (hbody:∀ (cdv:Value) (A:Around) (outer:List Env) (s:Shared) (H:Hp) (vs:List V) (Q:VK) (E:XK),Room k (A.deeper (envOfC qual (defScope st) s.heap.objs.size f cdv))→sp vs H Q E→
   ∃ t,PSs (cxOf (CXE P w) P w K mg base N qual (defScope st) f cdv A outer s H E) (defBody st) t∧t { nx:=fun _ H'=>Q .non H',rt:=Q } (start N vs) H):FnOk P w K mg base (CXE P w) (k + 1) f fd ps sp:=by
 obtain ⟨oc,od,kV,doc,pm,an,cdv,ct,osl,rfl,lk,hcd⟩:=F.ex
 exact fn_of lk hcd S len fun A outer s H vs Q E hr hsp=>hbody cdv A outer s H vs Q E hr hsp
end
theorem PS.nox {X:Cx} {st:Stmt} {t:TS} (h:PS X.nox st t):PS X st t:=fun pins s σ H D I hw=>
 wpAny_mono (h pins s σ H D (I.wish _) hw) (fun _ _ q=>q.unwish) fun _ _ z=>False.elim z
def DfX (P:Program) (w:World) (K:PySem.W.Frag) (mg:Str→Option Value) (base:Heap) (k:Nat) (x:Str) (ps:List Str) (sp:Sp):Prop:=
 ∃ f fd,mg x=some (.ref f)∧PySem.W.keepIn K (.ref f)=true∧Binds K fd ps []∧FnOk P w K mg base (CXE P w) k f fd ps sp
def DmX (P:Program) (w:World) (K:PySem.W.Frag) (mg:Str→Option Value) (base:Heap) (k:Nat) (C:Addr) (m:Str) (ps:List Str) (sp:Sp):Prop:=
 ∃ f fd,Cls K C∧Meth K C m f∧Binds K fd ps []∧FnOk P w K mg base (CXE P w) k f fd ps sp
section
variable {X : Cx} {k : Nat} {C : Addr} {ps : List Str} {sp : Sp} {x m : Str} {p pos apos : Pos} {e o : Expr} {es : List Expr} {ta : TE} {t : TA} {W : St → XK} {f : Addr} {fd : FuncData}
def tCallX (sp:Sp) (W:St→XK) (t:TA):TE:=fun σ H Q=>t σ H fun vs H1=>sp vs H1 Q (W σ)
def tMethX (C:Addr) (m:Str) (sp:Sp) (W:St→XK) (ta:TE) (t:TA):TE:=fun σ H Q=>ta σ H fun x H1=>∃ a dx fs,x=.ref a∧H1 a=some (.ins C dx fs)∧fs.lookup m=none∧t σ H1 fun vs H2=>sp (x :: vs) H2 Q (W σ)
theorem run_fnX {pins:List (Addr × Obj)} {σ:St} {H:Hp} {s:Shared} {Q:VK} {us:List Value} {vs:List V} (F:FnOk X.prog X.w X.K X.mg X.base (CXE X.prog X.w) k f fd ps sp) (hr:Room k X.A) (hb:Binds X.K fd ps []) (hx:ThrOn X W)
  (I:Inv X pins σ H s) (r:Vals vs us) (h:sp vs H Q (W σ)):wpAny (model X.prog X.w) X.A (call (.ref f) us) (EP X pins σ Q) X.xe s:=by
 have hl:(us ++ []).length=ps.length:=by rw [List.append_nil,← r.length]; exact F.len _ _ _ _ h
 have hb':=hb s us I.kIn hl
 rw [List.append_nil] at hb'
 refine wpAny_call (codeAny_mono (F.run X.A X.stack s H ⟨us,[]⟩ us vs Q (W σ) hr I.env0 hb' r h) fun r s' hq=>?_)
 cases r with
 | error e=>exact hx pins σ H s e s' I hq
 | ok fl=>
  cases fl with
  | ret u=>exact I.after hq
  | next=>exact False.elim hq
  | brk=>exact False.elim hq
  | cont=>exact False.elim hq
theorem pe_callX (hx:ThrOn X W) (D:DfX X.prog X.w X.K X.mg X.base k x ps sp) (hr:Room k X.A) (hg:Gl X x)
  (ha:PA X (e :: es) t) (hdb:(x == ("__debug__":Str))=false:=by decide) (he:starEach (e :: es) X.env=(false,eval e X.env) :: starEach es X.env:=by rfl) (hpl:(backTo pos (starEach es X.env)).any (·.1)=false:=by rfl):
  PE X (.Call (.Name x p) (e :: es) [] pos) (tCallX sp W t):=by
 obtain ⟨f,fd,hm,hk,hb,F⟩:=D
 intro pins s σ H Q I h
 refine wpAny_Call_Name_kw (ld_glob I hg hm ?_ hdb)
 refine PySem.W.callWith_K (h₀:=X.base) I.ok.mod.kin hk (thn (ha pos pins s σ H _ I h) fun us s1 ⟨vs,H1,I1,r,q⟩=>⟨I1.kIn,?_⟩) he hpl
 exact run_fnX F hr hb hx I1 r q
theorem pe_methX {pl:Sem Bool} (hx:ThrOn X W) (he:PE X o ta) (D:DmX X.prog X.w X.K X.mg X.base k C m ps sp) (hr:Room k X.A) (ha:PA X (e :: es) t)
  (hst:starEach (e :: es) X.env=(false,eval e X.env) :: starEach es X.env:=by rfl) (hpl:(backTo pos (starEach es X.env)).any (·.1)=false:=by rfl)
  (ht:eval (.Call (.Attribute o m apos) (e :: es) [] pos) X.env=(do
   let ov ← eval o X.env
   standAt apos.atName
   let (f,first) ← holding [ov] (getMethod ov m pl)
   callWith pos f first (backTo pos (starEach (e :: es) X.env)) (backToKw pos (keywordEach [] X.env))):=by rfl):
  PE X (.Call (.Attribute o m apos) (e :: es) [] pos) (tMethX C m sp W ta t):=by
 obtain ⟨f,fd,cl,hm,hb,F⟩:=D
 intro pins s σ H Q I h
 refine PySem.W.methodCall_KW (pl:=pl) (thn (he pins s σ H _ I h) fun u s1 ⟨x,H1,I1,rx,a,dx,fs,ex,ea,l,q⟩=>?_) ht
 subst ex
 obtain rfl:u=Value.ref a:=rx
 refine getmeth_ok I1 ea cl hm l ?_
 refine PySem.W.callWith_K (first:=[.ref a]) (h₀:=X.base) I.ok.mod.kin hm.kp (thn (ha pos pins s1 σ H1 _ I1 q) fun us s2 ⟨vs,H2,I2,r,q2⟩=>⟨I2.kIn,?_⟩) hst hpl
 exact run_fnX (us:=.ref a :: us) (vs:=.ref a :: vs) F hr hb hx I2 (.cons rfl r) q2
end
abbrev mroVE:List Value:=[.type "ValueError",.type "Exception",.type "BaseException",.type "object"]
theorem exc_obj {K:PySem.W.Frag} {h:Heap} {C:Addr} {bmB:List Value} {newId:String} (X:K.In h) (q:PySem.W.excIn K C bmB newId=true):
  ∃ bm N nm q bs hdct sn sub ab col dd k0 k1 k2 k3 k5 mN,h.get? C=some (excClassObj nm q C N bs bm hdct sn sub ab col dd k0 k1 k2 k3 k5 newId)∧h.Ns N mN∧mN "__init__"=none∧OwnTail h bmB bm:=by
 unfold PySem.W.excIn at q
 split at q
 ·rename_i dd cd sl ho
  split at q
  ·rename_i C' bm k0 k1 k2 k3 n k5 hm hs
   simp only [Bool.and_eq_true,beq_iff_eq,Bool.not_eq_true'] at q
   obtain ⟨⟨⟨⟨⟨rfl,rfl⟩,hdel⟩,ht⟩,hok⟩,hni⟩:=q
   obtain ⟨nm,bs,mro,ns,qn,hd,sn,sub,ab,col,del⟩:=cd
   dsimp only at hm hdel hok hni
   subst hm hdel
   have hsl:sl=#[k0,k1,k2,k3,some (.builtin n),k5]:=by
    obtain ⟨l⟩:=sl
    simp only at hs
    rw [hs]
   subst hsl
   exact ⟨bm,ns,nm,qn,bs,hd,sn,sub,ab,col,dd,k0,k1,k2,k3,k5,_,X _ _ ho,.of_isNs (PySem.W.isNs_of_in X hok),PySem.W.nsMap_none_of_in X hok hni,PySem.W.tail_of_in X ht⟩
  ·cases q
 ·cases q
def tRaise (W:St→XK) (C:Addr):TS:=fun _ σ H=>W σ (.ref C) none H
theorem ps_raise0 {X:Cx} {W:St→XK} {x:Str} {C:Addr} {np cpos pos:Pos} (hc:X.calm=true) (hw:ThrMade X W) (hg:Gl X x) (hm:X.mg x=some (.ref C)) (q:PySem.W.excIn X.K C mroVE "ValueError.__new__"=true)
  (hdb:(x == ("__debug__":Str))=false:=by decide):PS X (.Raise (some (.Call (.Name x np) [] [] cpos)) none pos) (tRaise W C):=by
 intro pins s σ H D I h
 obtain ⟨tl,N,nm,qn,bs,hdct,sn,sub,ab,col,dd,k0,k1,k2,k3,k5,mN,hC,hN,hni,T⟩:=exc_obj I.kIn q
 refine wpAny_Raise_call_subT (C:=C) (nm:=nm) (q:=qn) (N:=N) (bs:=bs) (bm:=tl) (hdct:=hdct) (sn:=sn) (sub:=sub) (ab:=ab) (col:=col) (dd:=dd) (k0:=k0) (k1:=k1) (k2:=k2) (k3:=k3) (k5:=k5)
  PySem.F.excBase_ValueError (mN:=mN) (T.hasType PySem.F.excBase_ValueError.hasBase) (I.ok.hd hc) rfl hni (ld_glob I hg hm ⟨rfl,?_⟩ hdb)
 exact evalArgs_empty ⟨rfl,Nat.zero_le _,hC,hN,T,fun h' e mk=>hw pins σ H s h' e _ _ I mk h⟩
end L2
set_option maxRecDepth 100000
namespace L2
open PySem PyProof.Rows
def tupO (us:List Value):Obj:={ cls:=.type "tuple",data:=.seq us.toArray }
def errO (C t:Addr):Obj:={ cls:=.ref C,data:=.fields #[.ref t,.none,.none,.none,.bool false,.none] }
def laidE (h:Heap) (C:Addr) (us:List Value):Heap:=(h.push (tupO us)).push (errO C h.objs.size)
theorem laidE_old {h:Heap} {C:Addr} {us:List Value}:∀ b o,h.get? b=some o→(laidE h C us).get? b=some o:=fun _ _ e=>Heap.get?_push_of_some _ (Heap.get?_push_of_some _ e)
theorem laidE_err {h:Heap} {C:Addr} {us:List Value}:(laidE h C us).get? (h.objs.size + 1)=some (errO C h.objs.size):=by
 unfold laidE errO tupO
 heap_get
theorem laidE_made {h:Heap} {C:Addr} {us:List Value}:Heap.MadeExcOf h (laidE h C us) (h.objs.size + 1) (.ref C) us:=
 ⟨laidE_old,Heap.get?_none_of_le (Nat.le_succ _),h.objs.size,laidE_err,Heap.get?_none_of_le (Nat.le_refl _),Heap.get?_push_of_some _ (Heap.get?_push_at rfl rfl)⟩
section
variable {P : Program} {w : World} {A : Around} {E : Value → Shared → Prop} {s : Shared}
variable {nm q : Str} {C N fI : Addr} {bs bm tl : List Value} {hd ab : Bool} {sn : List Str} {sub us : List Value} {col : Option Bool} {dd : Option Addr} {k0 k1 k2 k3 k5 : Option Value} {B newId initId : String} {mN : Str → Option Value} {oI : Obj}
theorem type_call_own {Q:Fin→Shared→Prop} (F:ExcBaseFacts B newId initId bm) (T:OwnTail s.heap bm tl) (hC:s.heap.get? C=some (excClassObj nm q C N bs tl hd sn sub ab col dd k0 k1 k2 k3 k5 newId)) (hN:s.heap.Ns N mN) (hI:mN "__init__"=some (.ref fI)) (hf:s.heap.get? fI=some oI) (hfc:oI.cls=.type "function") (hz:us.length ≤ sizeLine)
  (k:∀ h' e,Heap.MadeExcOf s.heap h' e (.ref C) us→wpAny (model P w) A (call (.ref fI) (.ref e :: us)) (fun r s'=>r=.none∧Q (.done (.ret (.ref e))) s') E { s with heap:=h' }):
  wpAny (model P w) A (Builtin.«type.__call__» ⟨.ref C :: us,[]⟩) Q E s:=by
 obtain ⟨h,g,d,t,os⟩:=s
 repeat (first | with_reducible refine wpAny_madeBy_exc hC ?_ | with_reducible refine wpAny_loadPart_at hC ?_ | wp_step)
 refine codeAny_call_builtin_code (Code.quiet_builtin _ F.quiet) (wpAny_check_new_subT F T hC (codeAny_exc_new_subT F T hC ?_ hz))
 show wpAny _ _ _ _ _ ⟨laidE h C us,g,d,t,os⟩
 have hC':=laidE_old (C:=C) (us:=us) C _ hC
 have hme:(Value.ref C :: tl).contains (.ref C)=true:=by simp
 have hN':(laidE h C us).Ns N mN:=by
  obtain ⟨o,es,ep,e,r⟩:=hN
  exact ⟨o,es,ep,laidE_old _ _ e,r⟩
 have hx:=laidE_err (h:=h) (C:=C) (us:=us)
 unfold errO at hx
 unfold isInstance
 repeat (first | (with_reducible refine wpAny_isSubtype_exc hC' ?_; rw [hme]) | with_reducible refine wpAny_loadPart_at hx ?_ | wp_step)
 show wpAny _ _ (typeLookup (.ref C) _) _ _ _
 refine wpAny_typeLookup_tail hC' hN' (T.keeps laidE_old) F.mroIs F.init.lookup ?_
 rw [hI]
 refine wpAny_holding (wpAny_bind ?_)
 unfold bindSpecial
 refine wpAny_bind (wpAny_typeOf (T:="function") ⟨_,laidE_old _ _ hf,hfc⟩ ?_)
 rw [if_pos (by decide)]
 refine wpAny_pure (wpAny_bind (wpAny_mono (k _ _ laidE_made) (fun r s' hr=>?_) fun _ _ x=>x))
 obtain ⟨rfl,hQ⟩:=hr
 wp_walk
 exact hQ
theorem call_own {Q:Value→Shared→Prop} (F:ExcBaseFacts B newId initId bm) (T:OwnTail s.heap bm tl) (hC:s.heap.get? C=some (excClassObj nm q C N bs tl hd sn sub ab col dd k0 k1 k2 k3 k5 newId)) (hN:s.heap.Ns N mN) (hI:mN "__init__"=some (.ref fI)) (hf:s.heap.get? fI=some oI) (hfc:oI.cls=.type "function") (hz:us.length ≤ sizeLine)
  (k:∀ h' e,Heap.MadeExcOf s.heap h' e (.ref C) us→wpAny (model P w) (A.under (.builtin "type.__call__" ⟨.ref C :: us,[]⟩)) (call (.ref fI) (.ref e :: us)) (fun r s'=>r=.none∧Q (.ref e) s') E { s with heap:=h' }):
  wpAny (model P w) A (call (.ref C) us) Q E s:=by
 have f1:=tc_lookup
 have f2:=tc_bind (.ref C)
 have hT:s.TypeIs (.ref C) "type":=⟨_,hC,rfl⟩
 obtain ⟨h,g,d,t,os⟩:=s
 refine wpAny_call (codeAny_of_tree ?_)
 show wpAny _ _ (callAny (.ref C) _) _ _ _
 repeat (any_goals (first | with_reducible refine wpAny_loadPart_at hC ?_ | assumption | wp_step))
 exact ⟨rfl,codeAny_call_builtin_at (Code.quiet_builtin _ (by decide +kernel)) entry_typeCall (wpAny_check_type_call_sub hC (type_call_own F T hC hN hI hf hfc hz fun h' e mk=>k h' e mk))⟩
end
end L2
set_option maxRecDepth 100000
namespace L2
open PySem PySem.Spec PySem.Calls PySem.W PyProof.Rows
open PySem.Builtin PySem.Builtin.ObjectAttr
def onlyVE:List Value→Bool
 | []=>false
 | .ref _ :: r=>onlyVE r
 | v :: r=>(v :: r) == mroVE
theorem ve_nil {l:List Value} (h:(l == mroVE)=true):l=mroVE:=beq_iff_eq.mp h
theorem refuse_ve (self:Value):∀ (l:List Value),onlyVE l=true→refuseLoop self "__setattr__" l=pure ()
 | [],e=>by cases e
 | v :: r,e=>by
  cases v
  case ref c=>rw [refuseLoop_ref]; exact refuse_ve self r e
  all_goals
   have e':=ve_nil e
   rw [e']
   exact F.store_ValueError.passes self
theorem ve_has:∀ (l:List Value),onlyVE l=true→l.contains (.type "object")=true
 | [],e=>by cases e
 | v :: r,e=>by
  cases v
  case ref c=>rw [List.contains_cons,ve_has r e,Bool.or_true]
  all_goals
   have e':=ve_nil e
   rw [e']
   decide
def excOver (K:Frag) (C:Addr):Bool:=(clsIn K C).any fun cd=>onlyVE cd.mro
section
variable {prog : Program} {w : World} {A : Around} {s : Shared} {K : Frag} {x C : Addr} {R : Result → Shared → Prop}
theorem osa_exc {ox:Obj} {vs:Array Value} {name:Str} {tk:Tok} {v:Value} (X:K.In s.heap) (hx:s.heap.get? x=some ox) (hcl:ox.cls=.ref C) (hdat:ox.data=.fields vs) (hdn:ox.dict=none)
  (hp:excOver K C=true) (ht:takerIn K C name=some none) (hh:hasDictIn K C=true)
  (h:∀ h' tk',h'.get? x=some { ox with dict:=some s.heap.objs.size }→h'.Ns1 s.heap.objs.size (fun y=>if y=name then some v else none)→(∀ b o,b ≠ x→s.heap.get? b=some o→h'.get? b=some o)→R (.ok (.ret .none)) { s with heap:=h',toks:=tk' }):
  codeAny (model prog w) A (.call (.builtin "object.__setattr__") ⟨[.ref x,.str name tk,v],[]⟩) R s:=by
 have SF:=PySem.F.store_object
 have I:InstAt s.heap x ox C none:=⟨hx,hcl,by unfold notCls; rw [hdat],by rw [hdn]; trivial⟩
 obtain ⟨cd,hc,ho⟩:=any_some hp
 have ne:cd.mro.isEmpty=false:=by cases q:cd.mro with | nil=>rw [q] at ho; cases ho | cons _ _=>rfl
 have sub:Looks (model prog w) s.heap (isInstance (.ref x) (.type "object")) true:=I.type.andThen (looks_mroIn X (by unfold mroIn; rw [hc,Option.bind_some,if_neg (by rw [ne]; decide),ve_has _ ho]))
 refine codeAny_call_builtin SF.slot.plain SF.entry (@check_slot (model prog w) _ _ s "object.__setattr__" "object" "__setattr__" (.ref x) [.str name tk,v] [] _ SF.kind SF.split sub (SF.args (.ref x) (.str name tk) v) ?_)
 obtain ⟨attr,ha,hr⟩:=Option.bind_eq_some_iff.mp ht
 have hm:Looks (model prog w) s.heap (mroOf (.ref C)) cd.mro:=(looks_clsIn X hc).andThen .now
 have L3:Looks (model prog w) s.heap (storeTaker? attr) none:=by
  cases attr with
  | none=>exact .now
  | some a=>
   obtain ⟨b,hb,e⟩:=Option.map_eq_some_iff.mp hr
   refine (looks_takesIn X hb).andThen ?_
   cases b with
   | true=>cases e
   | false=>exact .now
 rw [osa_eq,refuse_eq]
 refine wpAny_bind (wpAny_bind (I.type.here (wpAny_bind (hm.here ?_))))
 rw [refuse_ve _ _ ho]
 refine wpAny_pure (wpAny_bind (I.type.here (wpAny_bind ((looks_findIn X ha).here (wpAny_bind (L3.here ?_))))))
 obtain ⟨cd2,hc2,hd'⟩:=any_some hh
 obtain ⟨hp0,g,d,t,os⟩:=s
 obtain ⟨oc,odi,oda,osl⟩:=ox
 dsimp only at hcl hdat hdn
 subst hcl hdat hdn
 refine wpAny_bind (wpAny_pure (wpAny_bind (wpAny_bind (wpAny_loadPart hx (wpAny_bind ((looks_clsIn X hc2).here ?_))))))
 rw [hd']
 have hx₁:(hp0.push { cls:=.type "dict",data:=.dict #[] }).get? x=some { cls:=.ref C,data:=.fields vs,slots:=osl }:=Heap.get?_push_of_some _ hx
 have hxs:x ≠ hp0.objs.size:=Nat.ne_of_lt (Heap.lt_size hx)
 refine wpAny_bind (wpAny_alloc' ?_)
 refine wpAny_bind (wpAny_update' hx₁ ?_)
 refine wpAny_pure ?_
 have hgd:((hp0.push { cls:=.type "dict",data:=.dict #[] }).update x fun o=>{ cls:=o.cls,dict:=some hp0.objs.size,data:=o.data,slots:=o.slots }).get? hp0.objs.size
   = some { cls:=.type "dict",data:=.dict #[] }:=
  (Heap.get?_update_ne _ _ _ _ hxs.symm).trans (Heap.get?_push_at rfl rfl)
 have hnd:((hp0.push { cls:=.type "dict",data:=.dict #[] }).update x fun o=>{ cls:=o.cls,dict:=some hp0.objs.size,data:=o.data,slots:=o.slots }).Ns hp0.objs.size (fun _=>none):=
  ⟨_,#[],_,hgd,rfl,fun e he=>absurd he (by simp),fun _=>rfl⟩
 show wpAny _ _ (storeInDict hp0.objs.size (.str name tk) name v) _ _ _
 unfold storeInDict newKeyGuard
 refine wpAny_bind (wpAny_pure (wpAny_bind (wpAny_nsSet1 (Heap.Ns1.of_empty hnd) fun h' hn' hs=>?_)))
 obtain ⟨oD,esD,epD,hoD,hdD,hcD⟩:=hn'.count (Within.cons name v Within.nil)
 refine wpAny_bind (wpAny_lookBehind hoD (by rw [hdD]; exact pastItsLine_dict (Nat.le_trans hcD (by rw [List.length_cons,List.length_nil,sizeLine_eq]; omega))) ?_)
 refine wpAny_pure (h h' _ ?_ hn' fun b ob hbx hb=>?_)
 ·exact (hs.2 x hxs).trans (Heap.get?_update_self _ hx₁ rfl)
 ·exact (hs.2 b (Nat.ne_of_lt (Heap.lt_size hb))).trans ((Heap.get?_update_ne _ _ _ _ hbx).trans (Heap.get?_push_of_some _ hb))
end
end L2
set_option maxRecDepth 100000
namespace L2
open PySem PySem.Spec PySem.Calls PySem.W PyProof.Rows
def excP2 (ea C:Addr) (od:Option Addr) (h:Heap):Prop:=∃ o vs a0,h.get? ea=some o∧o.cls=.ref C∧o.data=.fields vs∧vs[0]?=some a0∧vs[1]?=some .none∧o.dict=od∧vs[2]?=some .none∧4 < vs.size
def excN (ea C:Addr):HO:=.ext (excP2 ea C none)
def excM (ea C dx:Addr):HO:=.ext (excP2 ea C (some dx))
theorem exc_ok {P:Program} {w:World} {H:Hp} {h:Heap} {ea C:Addr} {od:Option Addr} (x:excP2 ea C od h):ObjOk P w H h ea (.ext (excP2 ea C od)):=by
 obtain ⟨o,vs,a0,ho,r⟩:=id x
 exact ⟨x,⟨o,ho⟩,fun h1 h2 ⟨o1,vs1,a1,q1,q2⟩ k=>⟨o1,vs1,a1,k o1 q1,q2⟩⟩
theorem hide_at {l:Addr} {H:Hp}:hide l H l=none:=if_pos rfl
structure ExcF (K : Frag) (C : Addr) (f : Str) : Prop where
  sa : findIn K (.ref C) "__setattr__" = some (some (.builtin "object.__setattr__"))
  ov : excOver K C = true
  tk : takerIn K C f = some none
  hd : hasDictIn K C = true
section
variable {X : Cx} {pins : List (Addr × Obj)} {σ : St} {H : Hp} {s : Shared}
theorem setE_ok {A:Around} {E:Value→Shared→Prop} {ea C:Addr} {f:Str} {y:V} {u:Value} {Q:Unit→Shared→Prop} (I:Inv X pins σ H s) (e:H ea=some (excN ea C)) (T:ExcF X.K C f) (ry:RelV y u)
  (h:∀ dx s',H dx=none→dx ≠ ea→Inv X pins σ (upd (upd H dx (.xd [(f,y)])) ea (excM ea C dx)) s'→Q () s'):wpAny (model X.prog X.w) A (setAttr (.ref ea) f u) Q E s:=by
 obtain ⟨ox,vs,a0,hx,hc,hd,h0,h1,hdn,h22,h5z⟩:=id (show excP2 ea C none s.heap from (I.hok ea _ e).1)
 have IA:InstAt s.heap ea ox C none:=⟨hx,hc,by unfold notCls; rw [hd],by rw [hdn]; trivial⟩
 refine set_plain I.kIn IA T.sa (osa_exc (s:={ s with toks:=s.toks + 1 }) I.kIn hx hc hd hdn T.ov T.tk T.hd fun h' tk' hx' hn' hk=>?_)
 have dn:H s.heap.objs.size=none:=I.hok.fresh (Nat.le_refl _)
 have ne:s.heap.objs.size ≠ ea:=Nat.ne_of_gt (Heap.lt_size hx)
 refine h s.heap.objs.size _ dn ne (I.call' (ch:=[]) rfl ?_ ?_ I.bare fun b z=>absurd z (by simp))
 ·have old:∀ b,H b ≠ none→b ≠ ea→upd (upd H s.heap.objs.size (.xd [(f,y)])) ea (excM ea C s.heap.objs.size) b=H b:=fun b hb hbe=>by
   rw [upd_ne hbe,upd_ne (fun z=>hb (by rw [z]; exact dn))]
  refine ⟨fun b o q n hb hx=>?_,fun b o q n hb hx=>?_,fun b o q n hx=>?_,fun b o q hx=>?_,fun b xs q=>?_,fun b o u q=>?_,fun b ps q=>?_⟩
  ·exact hk b o (fun z=>by rw [z,e] at n; cases n) q
  ·exact ⟨o.slots,hk b o (fun z=>by rw [z,e] at n; cases n) q⟩
  ·rw [upd_ne (fun z=>by rw [z,e] at n; cases n),upd_ne (Nat.ne_of_lt (Heap.lt_size q))]
   exact n
  ·by_cases hb:b=ea
   ·rw [hb]; exact ⟨_,hx'⟩
   ·exact ⟨o,hk b o hb q⟩
  ·rw [old b (by rw [q]; exact fun z=>nomatch z) (fun z=>by rw [z,e] at q; cases q)]; exact q
  ·rw [old b (by rw [q]; exact fun z=>nomatch z) (fun z=>by rw [z,e] at q; cases q)]; exact q
  ·exact ⟨#[],by rw [old b (by rw [q]; exact fun z=>nomatch z) (fun z=>by rw [z,e] at q; cases q)]; simpa using q⟩
 ·intro a v q
  by_cases ha:a=ea
  ·rw [ha,upd_same] at q
   cases q
   rw [ha]
   exact exc_ok ⟨_,vs,a0,hx',hc,hd,h0,h1,rfl,h22,h5z⟩
  ·rw [upd_ne ha] at q
   by_cases hb:a=s.heap.objs.size
   ·rw [hb,upd_same] at q
    cases q
    rw [hb]
    refine ⟨_,hn',fun g=>?_⟩
    by_cases hg:g=f
    ·rw [if_pos hg,hg]
     simp only [List.lookup,beq_self_eq_true]
     exact ry
    ·rw [if_neg hg]
     have:(g == f)=false:=by simpa using hg
     simp only [List.lookup,this]
     exact True.intro
   ·rw [upd_ne hb] at q
    refine (I.hok a v q).stay (fun c w' hc' z=>hk c w' (fun z2=>?_) z) (fun c hc'=>?_) fun c xs hc'=>?_
    ·rcases hc' with hc' | hc'
     ·exact ha (hc' ▸ z2)
     ·rw [z2,e] at hc'; cases hc'
    ·rw [upd_ne (fun z=>by rw [z,e] at hc'; cases hc'),upd_ne (fun z=>by rw [z,dn] at hc'; cases hc')]; exact hc'
    ·rw [upd_ne (fun z=>by rw [z,e] at hc'; cases hc'),upd_ne (fun z=>by rw [z,dn] at hc'; cases hc')]; exact hc'
def sFldE (C:Addr) (ta tv:TE) (f:Str):TS:=fun D σ H=>tv σ H fun y H1=>ta σ H1 fun x H2=>∃ ea,x=.ref ea∧H2 ea=some (excN ea C)∧∀ dx,H2 dx=none→dx ≠ ea→D.nx σ (upd (upd H2 dx (.xd [(f,y)])) ea (excM ea C dx))
theorem ps_fldE {o value:Expr} {f:Str} {pos pos':Pos} {ta tv:TE} {C:Addr} (T:ExcF X.K C f) (ha:PE X o ta) (hv:PE X value tv) (hs:swapsWith value (some (.Attribute o f pos')) pos.line X.env=pure false):PS X (.Assign [.Attribute o f pos'] value pos) (sFldE C ta tv f):=by
 intro pins s σ H D I h
 refine plainObj_wpAny_Assign_Attribute (thn (hv pins s σ H _ I h) fun u s1 ⟨y,H1,I1,ry,q⟩=>thn (ha pins s1 σ H1 _ I1 q) fun ov s2 ⟨x,H2,I2,rx,ea,ex,he,q2⟩=>?_) hs
 subst ex
 obtain rfl:ov=Value.ref ea:=rx
 exact setE_ok I2 he T ry fun dx s3 h1 h2 I3=>⟨σ,_,I3,q2 dx h1 h2⟩
theorem Inv.untrack {ea:Addr} {φ:Heap→Prop} (I:Inv X pins σ H s) (e:H ea=some (.ext φ)):Inv X pins σ (hide ea H) s:=by
 have hd:∀ b,b ≠ ea→hide ea H b=H b:=fun b hb=>hide_ne hb
 refine ⟨I.ok,I.os,I.bare,⟨I.base.keep,I.base.slot,fun b o q n hx=>?_,I.base.there,fun b xs q=>?_,fun b o u q=>?_,fun b ps q=>?_⟩,I.loc,I.cell,?_,fun x c q=>?_,fun p hp=>?_,fun a v q=>?_,I.len⟩
 ·by_cases hb:b=ea
  ·rw [hb]; exact hide_at
  ·rw [hd b hb]; exact I.base.free b o q n hx
 ·have:=I.base.tups b xs q
  rw [hd b (fun z=>by rw [z,e] at this; cases this)]; exact this
 ·have:=I.base.frzs b o u q
  rw [hd b (fun z=>by rw [z,e] at this; cases this)]; exact this
 ·obtain ⟨more,this⟩:=I.base.tbls b ps q
  exact ⟨more,by rw [hd b (fun z=>by rw [z,e] at this; cases this)]; exact this⟩
 ·by_cases hb:X.env.locals=ea
  ·rw [hb]; exact hide_at
  ·rw [hd _ hb]; exact I.free
 ·by_cases hb:c=ea
  ·rw [hb]; exact hide_at
  ·rw [hd _ hb]; exact I.freeC x c q
 ·obtain ⟨q1,q2,q3⟩:=I.pin p hp
  refine ⟨q1,?_,q3⟩
  by_cases hb:p.1=ea
  ·rw [hb]; exact hide_at
  ·rw [hd _ hb]; exact q2
 ·have ha:a ≠ ea:=fun z=>by rw [z,hide_at] at q; cases q
  rw [hd a ha] at q
  refine (I.hok a v q).stay (fun c v' _ z=>z) (fun c hc=>?_) fun c xs hc=>?_
  ·rw [hd c (fun z=>by rw [z,e] at hc; cases hc)]; exact hc
  ·rw [hd c (fun z=>by rw [z,e] at hc; cases hc)]; exact hc
end
def ownIn (K:Frag) (C f:Addr):Bool:=match K.lookup C with
 | some ⟨.type "type",_,.cls cd,sl⟩=>(match cd.mro,sl.toList with
  | .ref C' :: bm,[_,_,_,_,some (.builtin n),_]=>C' == C && n == "ValueError.__new__" && !cd.hasDel && tailIn K mroVE bm && nsOkIn K cd.ns && nsIn K cd.ns "__init__" == some (some (.ref f))
  | _,_=>false)
 | _=>false
theorem ns_some_of {K:Frag} {h:Heap} {N:Addr} {mg:Str→Option Value} {n:Str} {v:Value} (X:K.In h) (G:h.Ns N mg) (e:nsIn K N n=some (some v)):mg n=some v:=by
 obtain ⟨o,es,ep,ho,hd,_,hf⟩:=G
 unfold nsIn at e
 split at e
 ·rename_i q
  have:=X _ _ q
  rw [this] at ho
  cases ho
  cases hd
  split at e
  ·rename_i he
   cases e
   rw [← hf]
   unfold nsFind findBy
   rw [← Array.find?_toList,he]
   rfl
  ·split at e <;> cases e
 ·cases e
theorem own_obj {K:Frag} {h:Heap} {C f:Addr} (X:K.In h) (q:ownIn K C f=true):
  ∃ bm N nm q bs hdct sn sub ab col dd k0 k1 k2 k3 k5 mN,K.lookup C=some (excClassObj nm q C N bs bm hdct sn sub ab col dd k0 k1 k2 k3 k5 "ValueError.__new__")∧h.Ns N mN∧mN "__init__"=some (.ref f)∧OwnTail h mroVE bm:=by
 unfold ownIn at q
 split at q
 ·rename_i dd cd sl ho
  split at q
  ·rename_i C' bm k0 k1 k2 k3 n k5 hm hs
   simp only [Bool.and_eq_true,beq_iff_eq,Bool.not_eq_true'] at q
   obtain ⟨⟨⟨⟨⟨rfl,rfl⟩,hdel⟩,ht⟩,hok⟩,hni⟩:=q
   obtain ⟨nm,bs,mro,ns,qn,hd,sn,sub,ab,col,del⟩:=cd
   dsimp only at hm hdel hok hni
   subst hm hdel
   have hsl:sl=#[k0,k1,k2,k3,some (.builtin "ValueError.__new__"),k5]:=by
    obtain ⟨l⟩:=sl
    simp only at hs
    rw [hs]
   subst hsl
   exact ⟨bm,ns,nm,qn,bs,hd,sn,sub,ab,col,dd,k0,k1,k2,k3,k5,_,ho,.of_isNs (isNs_of_in X hok),ns_some_of X (.of_isNs (isNs_of_in X hok)) hni,tail_of_in X ht⟩
  ·cases q
 ·cases q
structure ExcMk (K : Frag) (C f : Addr) : Prop where
  own : ownIn K C f = true
  fn : isFn K (.ref f) = true
  kp : keepIn K (.ref C) = true
def DiX (P:Program) (w:World) (K:Frag) (mg:Str→Option Value) (base:Heap) (k:Nat) (x:Str) (C:Addr) (ps:List Str) (sp:Sp):Prop:=
 ∃ f fd,mg x=some (.ref C)∧ExcMk K C f∧Binds K fd ps []∧FnOk P w K mg base CX0 k f fd ps sp
section
variable {M : Model} {A : Around} {E : Value → Shared → Prop} {s : Shared} {env : Env}
variable {nm q : Str} {C N : Addr} {bs bm : List Value} {hdct : Bool} {sn : List Str} {sub : List Value} {ab : Bool} {col : Option Bool} {dd : Option Addr} {k0 k1 k2 k3 k5 : Option Value} {newId : String}
theorem raiseStmt_own {x:Sem Value} {Q:Flow→Shared→Prop} (hbase:bm.contains (.type "BaseException")=true) (hh:A.handled=none)
  (h:wpAny M A x (fun v s₁=>∃ e oe vs,v=.ref e∧s₁.heap.get? C=some (excClassObj nm q C N bs bm hdct sn sub ab col dd k0 k1 k2 k3 k5 newId)∧s₁.heap.get? e=some oe∧oe.cls=.ref C∧oe.data=.fields vs∧vs[1]?=some .none∧E (.ref e) s₁) E s):
  wpAny M A (raiseStmt env (some x) none) Q E s:=by
 have hcB:(Value.ref C :: bm).contains (.type "BaseException")=true:=by rw [List.contains_cons,hbase,Bool.or_true]
 unfold raiseStmt
 refine wpAny_bind (wpAny_mono h (fun v s₁ h₁=>?_) fun _ _ x=>x)
 obtain ⟨e,oe,vs,rfl,hC,he,hc,hd,h1,hE⟩:=h₁
 obtain ⟨hp,g,d,tk,os⟩:=s₁
 obtain ⟨oc,odi,oda,osl⟩:=oe
 dsimp only at hc hd
 subst hc hd
 repeat (first | with_reducible refine wpAny_loadPart_at he ?_ | with_reducible refine wpAny_loadPart_at hC ?_ | (with_reducible refine wpAny_isSubtype_exc hC ?_; rw [hcB]) | wp_step)
 rw [h1]
 refine wpAny_pure ?_
 rw [if_neg (by decide)]
 exact wpAny_pure (wpAny_raiseNew_none hh hE)
end
section
variable {X : Cx} {k : Nat} {C : Addr} {ps : List Str} {sp : Sp} {x : Str} {np cpos pos : Pos} {e : Expr} {es : List Expr} {t : TA} {W : St → XK}
theorem Inv.madeE {pins:List (Addr × Obj)} {σ:St} {H:Hp} {s:Shared} {h':Heap} {ea:Addr} {us:List Value} (I:Inv X pins σ H s) (mk:Heap.MadeExcOf s.heap h' ea (.ref C) us):Inv X pins σ (upd H ea (excN ea C)) { s with heap:=h' }:=by
 have hH:H ea=none:=by
  cases q:H ea with
  | none=>rfl
  | some v=>
   obtain ⟨o,e⟩:=objOk_there (I.hok ea v q)
   rw [mk.new] at e; cases e
 obtain ⟨t,he,htn,ht⟩:=mk.there
 have up:∀ b o,H b=some o→upd H ea (excN ea C) b=some o:=fun b o q=>by rw [upd_ne (ne_of_none q hH)]; exact q
 refine I.call' (s':={ s with heap:=h' }) (ch:=[]) rfl ⟨fun b o q n hb hx=>mk.keeps b o q,fun b o q n hb hx=>⟨o.slots,mk.keeps b o q⟩,fun b o q n hx=>?_,fun b o q hx=>⟨o,mk.keeps b o q⟩,fun b xs q=>up b _ q,fun b o u q=>up b _ q,fun b ps q=>⟨#[],by rw [up b _ q]; simp⟩⟩ (fun a v q=>?_) I.bare fun b z=>absurd z (by simp)
 ·rw [upd_ne (fun z=>by rw [z,mk.new] at q; cases q)]
  exact n
 ·by_cases ha:a=ea
  ·rw [ha,upd_same] at q
   cases q
   rw [ha]
   exact exc_ok ⟨_,_,_,he,rfl,rfl,rfl,rfl,rfl,rfl,by show 4 < 6; decide⟩
  ·rw [upd_ne ha] at q
   exact (I.hok a v q).stay (fun c w' _ z=>mk.keeps c w' z) (fun c hc=>up c _ hc) fun c xs hc=>up c _ hc
def tRaiseI (W:St→XK) (C:Addr) (sp:Sp) (t:TA):TS:=fun _ σ H=>t σ H fun vs H1=>vs.length ≤ sizeLine∧∀ ea,H1 ea=none→
 sp (.ref ea :: vs) (upd H1 ea (excN ea C)) (fun v H2=>v=.non∧∃ dx,H2 ea=some (excM ea C dx)∧W σ (.ref C) (some dx) (hide ea H2)) E0
theorem ps_raiseI (O:Own X) (hc:X.calm=true) (hw:ThrDict X W) (hg:Gl X x) (D:DiX X.prog X.w X.K X.mg X.base k x C ps sp) (hr:Room (k + 1) X.A) (ha:PA X (e :: es) t)
  (hdb:(x == ("__debug__":Str))=false:=by decide) (hst:starEach (e :: es) X.env=(false,eval e X.env) :: starEach es X.env:=by rfl) (hpl:(backTo cpos (starEach es X.env)).any (·.1)=false:=by rfl):
  PS X (.Raise (some (.Call (.Name x np) (e :: es) [] cpos)) none pos) (tRaiseI W C sp t):=by
 obtain ⟨f,fd,hm,M,hb,F⟩:=D
 intro pins s σ H D' I h
 obtain ⟨tl,N,nm,qn,bs,hdct,sn,sub,ab,col,dd,k0,k1,k2,k3,k5,mN,hC,hN,hni,T⟩:=own_obj I.kIn M.own
 have hbase:=T.hasType PySem.F.excBase_ValueError.hasBase
 have hcall:wpAny (model X.prog X.w) X.A (eval (.Call (.Name x np) (e :: es) [] cpos) X.env) (fun v s₃=>∃ e oe vs,v=.ref e∧s₃.heap.get? C=some (excClassObj nm qn C N bs tl hdct sn sub ab col dd k0 k1 k2 k3 k5 "ValueError.__new__")∧s₃.heap.get? e=some oe∧oe.cls=.ref C∧oe.data=.fields vs∧vs[1]?=some .none∧X.xe (.ref e) s₃) X.xe s:=by
  refine wpAny_Call_Name_kw (ld_glob I hg hm ?_ hdb)
  refine callWith_K (h₀:=X.base) I.ok.mod.kin M.kp (thn (ha cpos pins s σ H _ I h) fun us s1 ⟨vs,H1,I1,r,hz,q⟩=>⟨I1.kIn,?_⟩) hst hpl
  obtain ⟨tl1,N1,nm1,qn1,bs1,hdct1,sn1,sub1,ab1,col1,dd1,l0,l1,l2,l3,l5,mN1,hC1,hN1,hni1,T1⟩:=own_obj I1.kIn M.own
  obtain ⟨of,hof,hofc⟩:=Option.map_eq_some_iff.mp (show typeIn X.K (.ref f)=some (.type "function") from beq_iff_eq.mp M.fn)
  refine call_own PySem.F.excBase_ValueError T1 (I1.kIn _ _ hC1) hN1 hni1 (I1.kIn _ _ hof) hofc (by show us.length ≤ sizeLine; rw [← r.length]; exact hz) fun h' ea mk=>?_
  have hea:H1 ea=none:=by
   cases q:H1 ea with
   | none=>rfl
   | some v=>
    obtain ⟨o,e⟩:=objOk_there (I1.hok ea v q)
    rw [mk.new] at e; cases e
  have hs0:X.s₀.heap.get? ea=none:=by
   cases q:X.s₀.heap.get? ea with
   | none=>rfl
   | some o=>
    obtain ⟨o',e⟩:=I1.base.there ea o q (by rw [O.exs]; simp)
    rw [mk.new] at e; cases e
  have I2:=I1.madeE mk
  have hq:=q ea hea
  have r2:Vals (V.ref ea :: vs) (Value.ref ea :: us):=.cons rfl r
  have hl:((Value.ref ea :: us) ++ []).length=ps.length:=by
   rw [List.append_nil]
   have e:=r2.length
   rw [F.len _ _ _ _ hq] at e
   exact e.symm
  have hb':=hb _ (Value.ref ea :: us) I2.kIn hl
  rw [List.append_nil] at hb'
  refine wpAny_call (codeAny_mono (F.run _ X.stack _ _ ⟨Value.ref ea :: us,[]⟩ (Value.ref ea :: us) _ _ E0 (hr.make C us []) (I2.env0.make C us []) hb' r2 hq) fun r s' hq'=>?_)
  cases r with
  | error e=>exact False.elim hq'
  | ok fl=>
   cases fl with
   | ret u=>
    obtain ⟨v,H',I3,rv,ev,dx,hM,hW⟩:=I2.after hq'
    subst ev
    refine ⟨rv,?_⟩
    obtain ⟨oe,ws,a0,he,hcl,hda,h0,h1,hdi,h22,_⟩:=id (show excP2 ea C (some dx) s'.heap from (I3.hok ea _ hM).1)
    refine ⟨ea,oe,ws,rfl,I3.kIn _ _ hC,he,hcl,hda,h1,hw pins σ _ s' ea oe ws a0 (I3.untrack hM) he hda h0 h1 h22 hide_at hs0 ?_⟩
    rw [hcl,hdi]
    exact hW
   | next=>exact False.elim hq'
   | brk=>exact False.elim hq'
   | cont=>exact False.elim hq'
 rw [arm_exec_Raise]
 exact wpAny_bind (wpAny_standAt (raiseStmt_own (C:=C) (nm:=nm) (q:=qn) (N:=N) (bs:=bs) (bm:=tl) (hdct:=hdct) (sn:=sn) (sub:=sub) (ab:=ab) (col:=col) (dd:=dd) (k0:=k0) (k1:=k1) (k2:=k2) (k3:=k3) (k5:=k5) hbase (I.ok.hd hc) (wpAny_bind (wpAny_mono hcall (fun v s₃ h₃=>wpAny_bind (wpAny_standAt (wpAny_pure h₃))) fun _ _ x=>x))))
end
end L2
set_option maxRecDepth 100000
namespace L2
open PySem PySem.Spec PyProof.Rows
def excP (ea:Addr) (cls:Value) (h:Heap):Prop:=∃ o vs,h.get? ea=some o∧o.cls=cls∧o.data=.fields vs∧vs[2]?=some .none
def excO (ea:Addr) (cls:Value):HO:=.ext (excP ea cls)
def excPd (ea:Addr) (cls:Value) (dx:Addr) (h:Heap):Prop:=∃ o vs,h.get? ea=some o∧o.cls=cls∧o.data=.fields vs∧o.dict=some dx∧vs[2]?=some .none
def excD (ea:Addr) (cls:Value) (dx:Addr):HO:=.ext (excPd ea cls dx)
def excV (ea:Addr) (cls:Value):Option Addr→HO
 | none=>excO ea cls
 | some dx=>excD ea cls dx
abbrev Cx.more (X:Cx) (pn:List (Addr × Obj)):Cx:={ X with pn:=X.pn ++ pn }
def Cx.tryX (X:Cx) (pn:List (Addr × Obj)) (W:St→XK):Cx:=(X.more pn).wish fun e s'=>∃ pins σ Hc sc,Inv (X.more pn) pins σ Hc sc∧CXE X.prog X.w X.stack Hc sc (W σ) e s'
def Cx.catchX (X:Cx) (ea:Addr) (pn:List (Addr × Obj)):Cx:={ X with A:=X.A.mark (some (.ref ea)),calm:=false,pn:=X.pn ++ pn,xe:=fun _ _=>False }
theorem on_try {X:Cx} {pn:List (Addr × Obj)} {W:St→XK}:ThrOn (X.tryX pn W) W:=fun pins σ H s e s' I h=>⟨pins,σ,H,s,I.unwish,h⟩
section
variable {X : Cx} {pins pn : List (Addr × Obj)} {σ : St} {H : Hp} {s : Shared}
theorem Inv.toMore (I:Inv X pins σ H s):Inv (X.more pins) [] σ H s:=
 ⟨⟨I.ok.mod,I.ok.kind,I.ok.glob,I.ok.blt,I.ok.above,I.ok.inj,I.ok.has,I.ok.cab,I.ok.hd,I.ok.frames,I.ok.stk,I.ok.exf,I.ok.bs,I.ok.bsz,I.ok.noex,I.ok.exfs,I.ok.funs,I.ok.frf⟩,I.os,I.bare,I.base,I.loc,I.cell,I.free,I.freeC,fun p hp=>I.pin p (by simpa using hp),I.hok,I.len⟩
theorem Inv.ofMore {pins':List (Addr × Obj)} (ok:X.Ok) (I:Inv (X.more pins) pins' σ H s):Inv X pins σ H s:=
 ⟨ok,I.os,I.bare,I.base,I.loc,I.cell,I.free,I.freeC,fun p hp=>I.pin p (List.mem_append_left _ hp),I.hok,I.len⟩
theorem Inv.toCatch {ea:Addr} {pins':List (Addr × Obj)} (I:Inv (X.more pins) pins' σ H s):Inv (X.catchX ea pins) [] σ H s:=
 ⟨⟨I.ok.mod,I.ok.kind,I.ok.glob,I.ok.blt,I.ok.above,I.ok.inj,I.ok.has,I.ok.cab,(fun z=>nomatch z),I.ok.frames,I.ok.stk,I.ok.exf,I.ok.bs,I.ok.bsz,I.ok.noex,I.ok.exfs,I.ok.funs,I.ok.frf⟩,I.os,I.bare,I.base,I.loc,I.cell,I.free,I.freeC,
  fun p hp=>I.pin p (List.mem_append_left _ (by simpa using (show p ∈ (X.pn ++ pins) ++ [] from hp))),I.hok,I.len⟩
theorem Inv.ofCatch {ea:Addr} (ok:X.Ok) (I:Inv (X.catchX ea pins) [] σ H s):Inv X pins σ H s:=
 ⟨ok,I.os,I.bare,I.base,I.loc,I.cell,I.free,I.freeC,fun p hp=>I.pin p (List.mem_append_left _ hp),I.hok,I.len⟩
theorem Inv.trackO {ea:Addr} {ho':HO} {o:Obj} {vs:Array Value} (I:Inv X pins σ H s) (hea:H ea=none) (h0:X.s₀.heap.get? ea=none) (ho:s.heap.get? ea=some o) (hd:o.data=.fields vs) (ok:∀ H2:Hp,ObjOk X.prog X.w H2 s.heap ea ho') (hp:∀ p ∈ X.pn ++ pins,p.1 ≠ ea):Inv X pins σ (upd H ea ho') s:=by
 have neL:X.env.locals ≠ ea:=fun z=>by
  obtain ⟨m,⟨o',_,_,ho',hd',_⟩,_⟩:=I.loc
  rw [z,ho] at ho'; cases ho'; rw [hd'] at hd; cases hd
 have neC:∀ x c,X.env.cells.lookup x=some c→c ≠ ea:=fun x c e z=>by
  obtain ⟨v,o',ho',hd'⟩:=I.cell x c e
  rw [z,ho] at ho'; cases ho'; rw [hd'] at hd; cases hd
 have up:∀ {b:Addr} {u:HO},H b=some u→upd H ea ho' b=some u:=fun {b u} e=>by rw [upd_ne (ne_of_none e hea)]; exact e
 refine ⟨I.ok,I.os,I.bare,⟨I.base.keep,I.base.slot,fun b o' e n hx'=>?_,I.base.there,fun b xs e=>up (I.base.tups b xs e),fun b ob u e=>up (I.base.frzs b ob u e),fun b ps e=>?_⟩,I.loc,I.cell,?_,fun x c e=>?_,fun p hp'=>?_,fun a u e=>?_,I.len⟩
 ·have:b ≠ ea:=fun z=>by rw [z,h0] at e; cases e
  rw [upd_ne this]
  exact I.base.free b o' e n hx'
 ·obtain ⟨more,q⟩:=I.base.tbls b ps e
  exact ⟨more,up q⟩
 ·rw [upd_ne neL]; exact I.free
 ·rw [upd_ne (neC x c e)]; exact I.freeC x c e
 ·obtain ⟨e,n,r⟩:=I.pin p hp'
  exact ⟨e,by rw [upd_ne (hp p hp')]; exact n,r⟩
 ·by_cases ha:a=ea
  ·rw [ha,upd_same] at e
   cases e
   rw [ha]
   exact ok _
  ·rw [upd_ne ha] at e
   exact (I.hok a u e).stay (fun c v _ q=>q) (fun b hb=>up hb) fun b xs hb=>up hb
theorem excV_ok {P:Program} {w:World} {H:Hp} {h:Heap} {ea:Addr} {cls:Value} {o:Obj} {vs:Array Value} (ho:h.get? ea=some o) (hc:o.cls=cls) (hd:o.data=.fields vs) (h2:vs[2]?=some .none):ObjOk P w H h ea (excV ea cls o.dict):=by
 cases hod:o.dict with
 | none=>exact ⟨⟨o,vs,ho,hc,hd,h2⟩,⟨o,ho⟩,fun h1 h2 ⟨o1,vs1,q1,q2,q3⟩ k=>⟨o1,vs1,k o1 q1,q2,q3⟩⟩
 | some dx=>exact ⟨⟨o,vs,ho,hc,hd,hod,h2⟩,⟨o,ho⟩,fun h1 h2 ⟨o1,vs1,q1,q2,q3⟩ k=>⟨o1,vs1,k o1 q1,q2,q3⟩⟩
theorem name_gone {M:Model} {A:Around} {E:Value→Shared→Prop} {i:Nat} {n:Str} {pos:Pos} {Q:Unit→Shared→Prop} (I:Inv X pins σ H s) (hN:X.N.Nodup) (hi:X.N[i]?=some n) (hk:X.env.scope.names.lookup n=some .local)
  (h:∀ s',Inv X pins (σ.set i none) H s'→Q () s'):wpAny M A (do bindName X.env n .none; unbindBehindTheSuite X.env n pos) Q E s:=by
 obtain ⟨m,hn,hl⟩:=id I.loc
 have hcls:(X.env.scope.kind == .class || (X.env.scope.kind == .module && X.env.locals != X.env.globals))=false:=by rw [I.ok.kind]; rfl
 have hiσ:i < σ.length:=by rw [I.len]; exact (List.getElem?_eq_some_iff.mp hi).1
 have cne:=I.cne
 refine wpAny_nameGoes_keeps hk hn hcls fun h' v hn' hs=>?_
 obtain ⟨oL,_,_,hoL,_⟩:=id hn
 have tracked:HOk X.prog X.w H h':=fun b ob e=>by
  refine (I.hok b ob e).stay (fun c w' hc q=>(hs.2 c ?_).trans q) (fun _ q=>q) fun _ _ q=>q
  rintro rfl
  have hfree:=I.free
  rcases hc with rfl | hc
  ·rw [hfree] at e; cases e
  ·rw [hfree] at hc; cases hc
 refine h _ ⟨I.ok,I.os,I.bare,⟨fun b o e n hb hx=>?_,fun b o e n hb hx=>?_,I.base.free,fun b o e hx=>?_,I.base.tups,I.base.frzs,I.base.tbls⟩,⟨_,hn',fun j y v' e1 e2 e3=>?_⟩,fun y c e=>?_,I.free,I.freeC,fun p hp=>?_,tracked,by simpa using I.len⟩
 ·exact (hs.2 b (Nat.ne_of_lt (Nat.lt_of_lt_of_le (Heap.lt_size e) I.ok.above))).trans (I.base.keep b o e n hb hx)
 ·obtain ⟨sl,e1⟩:=I.base.slot b o e n hb hx
  exact ⟨sl,(hs.2 b (Nat.ne_of_lt (Nat.lt_of_lt_of_le (Heap.lt_size e) I.ok.above))).trans e1⟩
 ·obtain ⟨o',e1⟩:=I.base.there b o e hx
  exact ⟨o',(hs.2 b (Nat.ne_of_lt (Nat.lt_of_lt_of_le (Heap.lt_size e) I.ok.above))).trans e1⟩
 ·by_cases hj:j=i
  ·subst hj
   rw [List.getElem?_set_self hiσ] at e2
   cases e2
  ·rw [List.getElem?_set_ne (Ne.symm hj)] at e2
   obtain ⟨u',r',q⟩:=hl j y v' e1 e2 e3
   refine ⟨u',r',?_⟩
   rcases q with ⟨k,e⟩ | ⟨k,c,e,z⟩
   ·refine .inl ⟨k,?_⟩
    have:y ≠ n:=fun e=>hj (nodup_ix hN e1 (e ▸ hi))
    simp [this,e]
   ·exact .inr ⟨k,c,e,z.sameBut hs (cne y c e)⟩
 ·obtain ⟨w',z⟩:=I.cell y c e
  exact ⟨w',z.sameBut hs (cne y c e)⟩
 ·obtain ⟨e,n,ne,nf,d⟩:=I.pin p hp
  exact ⟨(hs.2 p.1 ne).trans e,n,ne,nf,d⟩
end
def tTry (K:PySem.W.Frag) (C:Addr) (i:Nat) (tb:(St→XK)→TS) (th:TS):TS:=fun D σ H=>
 tb (fun σ' cls od H'=>PySem.W.exmOne K cls (.ref C)=some true∧∀ ea,H' ea=none→
  th { D with nx:=fun σ2 H2=>D.nx (σ2.set i none) H2,bk:=fun σ2 H2=>D.bk (σ2.set i none) H2,ct:=fun σ2 H2=>D.ct (σ2.set i none) H2 } (σ'.set i (some (.ref ea))) (upd H' ea (excV ea cls od))) D σ H
theorem ps_try {X:Cx} {body suite:List Stmt} {b₀:Stmt} {x n:Str} {np hpos pos:Pos} {i:Nat} {C:Addr} {tb:(St→XK)→TS} {th:TS} (O:Own X) (hN:X.N.Nodup) (hi:X.N[i]?=some n) (hk:X.env.scope.names.lookup n=some .local)
  (hg:Gl X x) (hm:X.mg x=some (.ref C)) (hb:∀ pn W,PSs (X.tryX pn W) body (tb W)) (hh:∀ ea pn,PSs (X.catchX ea pn) (b₀ :: suite) th) (hdb:(x == ("__debug__":Str))=false:=by decide):
  PS X (.Try body [.ExceptHandler (some (.Name x np)) (some n) (b₀ :: suite) hpos] [] [] pos) (tTry X.K C i tb th):=by
 intro pins s σ H D I h
 refine wpAny_Try_except ?_
 refine wpAny_mono (hb pins _ [] s σ H D (I.toMore.wish _) h) (fun f s1 q=>?_) (fun e s1 q=>?_)
 ·cases f with
  | next=>
   obtain ⟨σ',H',I',q⟩:=q
   exact wpAny_execs_nil ⟨σ',H',Inv.ofMore I.ok I'.unwish,q⟩
  | brk=>obtain ⟨σ',H',I',q⟩:=q; exact ⟨σ',H',Inv.ofMore I.ok I'.unwish,q⟩
  | cont=>obtain ⟨σ',H',I',q⟩:=q; exact ⟨σ',H',Inv.ofMore I.ok I'.unwish,q⟩
  | ret u=>obtain ⟨v,σ',H',I',r,q⟩:=q; exact ⟨v,σ',H',Inv.ofMore I.ok I'.unwish,r,q⟩
 ·obtain ⟨pins',σ',Hc,sc,Ic,ea,cls,a0,B,H',od,di,rfl,os,bare,u,hok,hea,hsc,fl,old,hW,hth⟩:=q
  have I1:Inv (X.more pins) pins' σ' H' s1:=Ic.call' os u hok bare fun b z=>absurd z (by simp)
  have fl':=fl
  rw [O.stk] at fl'
  have hfr0:X.A.frames=some (X.env :: X.outer):=by rw [I.ok.frames,O.stk]
  refine wpAny_mono (any_both (wpAny_looks_onW (Q:=fun _ s'=>∃ h4,s'={ s1 with heap:=h4 }∧Heap.HeldW B (X.env :: X.outer) ea cls a0 X.env.locals h4∧s1.heap.UpToSlots h4) (E:=fun _ _=>False) hfr0 O.frm fl' fun h4 held up4=>⟨h4,rfl,held,up4⟩) (note_dict (E:=fun _ _=>False) hfr0 fl'.2.2.1 O.frm fl'.2.2.2 di)) (fun _ s4 z4=>?_) (fun _ _ z=>z.1.elim)
  obtain ⟨⟨h4,rfl,held,up4⟩,d4⟩:=z4
  refine wpAny_mono (any_both (wpAny_landsW (Q:=fun _ s'=>∃ h5,s'={ s1 with heap:=h5 }∧Heap.FlyingW B (X.env :: X.outer) ea cls a0 h5∧h4.UpToSlots h5) (E:=fun _ _=>False) held fun h5 fl5 up5=>⟨h5,rfl,fl5,up5⟩) (land_dict (E:=fun _ _=>False) held.2.2.2 d4)) (fun _ s5 z5=>?_) (fun _ _ z=>z.1.elim)
  obtain ⟨⟨h5,rfl,fl5,up5⟩,d5⟩:=z5
  have hfr:∀ b ∈ frs X.stack,∃ o,s1.heap.get? b=some o∧∀ vs,o.data ≠ .fields vs:=fun b hb=>by
   obtain ⟨_,o,ho,hd⟩:=fl.2.2.1.mem hb
   exact ⟨o,ho,hd⟩
  have at_:∀ {h6:Heap},B.StaysIn h6→s1.heap.UpToSlots h6→Inv (X.more pins) pins' σ' H' { s1 with heap:=h6 }:=fun {h6} hB up=>by
   obtain ⟨u6,hok6,_⟩:=un_fly u hok fl.1 hB up hfr I1.stkFree old
   exact Ic.call' (s':={ s1 with heap:=h6 }) os u6 hok6 bare fun b z=>absurd z (by simp)
  have I5:=at_ fl5.1 (up4.trans up5)
  have J5:=I5.toCatch (ea:=ea)
  obtain ⟨ob,hob,hobc⟩:=fl5.there
  refine wpAny_handleBy_cons (codeAny_handlers_test (ld_glob (X:=X.catchX ea pins) J5 hg hm ?_ hdb)) (by intro q; cases q)
  have LT:PySem.W.Looks (model X.prog X.w) h5 (typeOf (.ref ea)) cls:=by
   subst hobc
   exact (PySem.W.Looks.ld hob).andThen .now
  refine (PySem.W.exm_one (K:=X.K) (h:=h5) J5.kIn LT hW).here (s:={ s1 with heap:=h5 }) ?_
  show codeAny _ _ _ _ _
  refine codeAny_handlers_suite_as ?_
  have fl5':Heap.FlyingW B (X.env :: X.outer) ea cls a0 h5:=fl5
  refine wpAny_mono (any_both (lands_againW (s:={ s1 with heap:=h5 }) (Q:=fun _ s'=>∃ h6,s'={ s1 with heap:=h6 }∧Heap.FlyingW B (X.env :: X.outer) ea cls a0 h6∧h5.UpToSlots h6) (E:=fun _ _=>False) fl5' fun h6 fl6 up6=>⟨h6,rfl,fl6,up6⟩) (land_dict (s:={ s1 with heap:=h5 }) (E:=fun _ _=>False) fl5'.2.2.2.at d5)) (fun _ s6 z6=>?_) (fun _ _ z=>z.1.elim)
  obtain ⟨⟨h6,rfl,fl6,up6⟩,oe,vs,hoe,hoed,hod,h62⟩:=z6
  have I6:=at_ fl6.1 (up4.trans (up5.trans up6))
  have J6:=I6.toCatch (ea:=ea)
  have hoec:oe.cls=cls:=by
   obtain ⟨oe2,_,hoe2,hc2,_⟩:=fl6.first
   rw [hoe] at hoe2
   cases hoe2
   exact hc2
  have h0:X.s₀.heap.get? ea=none:=by
   cases q:X.s₀.heap.get? ea with
   | none=>rfl
   | some o=>
    obtain ⟨o',e⟩:=Ic.base.there ea o q (by rw [show (X.more pins).ex=[] from O.exs]; simp)
    rw [hsc] at e; cases e
  have J7:=J6.trackO (ho':=excV ea cls od) hea h0 hoe hoed (fun H2=>by have:=excV_ok (P:=X.prog) (w:=X.w) (H:=H2) hoe hoec hoed h62; rw [hod] at this; exact this) (fun p hp z=>by
   have:=(Ic.pin p (List.mem_append_left _ (by simpa using (show p ∈ (X.pn ++ pins) ++ [] from hp)))).1
   rw [z,hsc] at this; cases this)
  refine store_ok (X:=X.catchX ea pins) (pins:=[]) (σ:=σ') (H:=upd H' ea (excV ea cls od)) (i:=i) (v:=.ref ea) J7 hN hi (.inl hk) rfl (fun s8 J8=>?_) (.inr hk)
  refine wpAny_mono (hh ea pins [] s8 _ _ _ J8 (hth ea hea)) (fun f s9 q9=>?_) (fun _ _ z=>False.elim z)
  cases f with
  | next=>
   obtain ⟨σ9,H9,I9,q⟩:=q9
   exact name_gone (X:=X.catchX ea pins) I9 hN hi hk fun s10 I10=>⟨_,H9,Inv.ofCatch I.ok I10,q⟩
  | brk=>
   obtain ⟨σ9,H9,I9,q⟩:=q9
   exact name_gone (X:=X.catchX ea pins) I9 hN hi hk fun s10 I10=>⟨_,H9,Inv.ofCatch I.ok I10,q⟩
  | cont=>
   obtain ⟨σ9,H9,I9,q⟩:=q9
   exact name_gone (X:=X.catchX ea pins) I9 hN hi hk fun s10 I10=>⟨_,H9,Inv.ofCatch I.ok I10,q⟩
  | ret u=>
   obtain ⟨v,σ9,H9,I9,r,q⟩:=q9
   exact name_gone (X:=X.catchX ea pins) I9 hN hi hk fun s10 I10=>⟨v,_,H9,Inv.ofCatch I.ok I10,r,q⟩
end L2
set_option maxRecDepth 100000
namespace L2
open PySem PySem.Spec PySem.Calls PySem.W PyProof.Rows
open PySem.Builtin PySem.Builtin.ObjectAttr PySem.Builtin.Getset_descriptor
section
variable {prog : Program} {w : World} {A : Around} {E : Value → Shared → Prop} {s : Shared} {K : Frag} {x D : Addr}
theorem looks_find_data {M:Model} {h:Heap} (X:K.In h) {name:Str} {a g:Value} (ha:findIn K (.ref D) name=some (some a)) (hg:specialIn K a "__get__"=some (some g)) (ht:takesIn K a=some true):
  Looks M h (find (.ref x) (.ref D) name) (.bind g a):=by
 have L1:=looks_findIn (M:=M) X ha
 have L2:Looks M h (getOf (some a)) (some g):=looks_specialIn X hg
 have L3:=looks_takesIn (M:=M) X ht
 exact L1.andThen (L2.andThen ((show Looks M h (dataDescriptor? (some a) (some g)) (some (g,a)) from L3.andThen .now).andThen (Looks.tag .now)))
theorem exc_class_get {R:Result→Shared→Prop} {tp:Value} {o:Obj} (X:K.In s.heap) (hx:s.heap.get? x=some o) (hc:o.cls=.ref D) (hm:mroIn K D (.type "object")=some true)
  (h:R (.ok (.ret (.ref D))) s):codeAny (model prog w) A (.call (.builtin "getset_descriptor.__get__") ⟨[.builtin "object.__class__",.ref x,tp],[]⟩) R s:=by
 obtain ⟨hh,g,dr,t,os⟩:=s
 have L0:Looks (model prog w) hh (typeOf (.ref x)) (.ref D):=hc ▸ (Looks.ld hx).andThen .now
 have L1:=looks_mroIn (M:=model prog w) X hm
 refine codeAny_call_builtin KF.slot_gs.plain KF.entry_gs (KF.slot_gs.check _ _ _ _ _ _ _ _ KF.type_class (KF.args_gs _ _ _) ?_)
 unfold Builtin.«getset_descriptor.__get__» descrGet
 rw [dga_obj]
 refine wpAny_bind (wpAny_pure ?_)
 unfold descrGetter descrCheckInstance descrNameAndClass isInstance
 simp only [KF.owner_class]
 repeat lk
 refine ⟨Code.quiet_builtin _ (by decide +kernel),codeAny_builtin KF.entry_class ?_⟩
 unfold Builtin.«object.__class__» shownTypeOf
 repeat lk
 exact h
theorem exc_check {M:Model} {o:Obj} {nameV:Value} {Q:Unit→Shared→Prop} {h:Heap} {g:Array GenState} {d:Drawn} {t:Nat} {os:OsState} (X:K.In h) (hx:h.get? x=some o) (hc:o.cls=.ref D) (hm:mroIn K D (.type "BaseException")=some true)
  (hq:Q () ⟨h,g,d,t,os⟩):wpAny M A (checkBuiltinCall "BaseException.__getattribute__" ⟨[.ref x,nameV],[]⟩) Q E ⟨h,g,d,t,os⟩:=by
 have hk:builtinKind "BaseException.__getattribute__"=some .slot:=by decide +kernel
 have hsplit:splitId "BaseException.__getattribute__"=some ("BaseException","__getattribute__"):=by decide +kernel
 have ha:=F.args_bexc_ga (.ref x) nameV
 have L1:=looks_mroIn (M:=M) X hm
 simp only [checkBuiltinCall,hk,hsplit]
 refine wpAny_bind ?_
 ·unfold isInstance
  repeat (first | (with_reducible refine wpAny_loadPart_at hx ?_; rw [hc]) | with_reducible refine L1.at ?_ | wp_step)
  exact hq
structure ExcK (K : Frag) (D : Addr) : Prop where
  ga : findIn K (.ref D) "__getattribute__" = some (some (.builtin "BaseException.__getattribute__"))
  gt : findIn K (.ref D) "__getattr__" = some none
  cl : findIn K (.ref D) "__class__" = some (some (.builtin "object.__class__"))
  gg : specialIn K (.builtin "object.__class__") "__get__" = some (some (.builtin "getset_descriptor.__get__"))
  tk : takesIn K (.builtin "object.__class__") = some true
  mo : mroIn K D (.type "object") = some true
  mb : mroIn K D (.type "BaseException") = some true
  ic : hasDictIn K D = true
theorem exc_class {o:Obj} {Q:Option Value→Shared→Prop} (T:ExcK K D) (X:K.In s.heap) (hx:s.heap.get? x=some o) (hc:o.cls=.ref D) (h:Q (some (.ref D)) { s with toks:=s.toks + 1 }):
  wpAny (model prog w) A (getAttr? (.ref x) "__class__") Q E s:=by
 obtain ⟨hh,g,d,t,os⟩:=s
 have L0:Looks (model prog w) hh (typeOf (.ref x)) (.ref D):=hc ▸ (Looks.ld hx).andThen .now
 have L1:=looks_findIn (M:=model prog w) X T.ga
 have L2:=looks_findIn (M:=model prog w) X T.gt
 have L3:=looks_find_data (M:=model prog w) (x:=x) X T.cl T.gg T.tk
 have f3:=F.attr_ValueError.ga.bind (.ref x)
 unfold getAttr? getAttrBy? getAttrBy
 refine wpAny_bind (wpAny_mkText (wpAny_bind (wpAny_attempt (wpAny_holding (wpAny_bind (L0.at (wpAny_bind (L1.at ?_))))))))
 show wpAny _ _ (getAttrByItsOwn _ _ _ _ _ _) _ _ _
 unfold getAttrByItsOwn hookBefore
 refine wpAny_bind ?_
 show wpAny _ _ (typeLookup (.ref D) "__getattr__") _ _ _
 refine L2.at ?_
 refine wpAny_bind (wpAny_attempt (wpAny_holding ?_))
 show wpAny _ _ (boundAndCalled _ _ _) _ _ _
 unfold boundAndCalled
 rw [f3]
 refine wpAny_bind (wpAny_pure ?_)
 refine wpAny_call (codeAny_call_builtin F.attr_ValueError.ga.plain F.entry_bexc_ga (exc_check X hx hc T.mb ?_))
 repeat (any_goals (first | assumption | (with_reducible refine wpAny_loadPart_at hx ?_; rw [hc]) | with_reducible refine L3.at ?_ | wp_step))
 refine exc_class_get (s:=⟨hh,g,d,_,os⟩) X hx hc T.mo ?_
 repeat (any_goals (first | assumption | wp_step))
theorem exc_get {o od:Obj} {name:Str} {v:Value} {expr:Bool} {Q:Value→Shared→Prop} (T:ExcK K D) (X:K.In s.heap) (I:InstAt s.heap x o D (some od)) (hf:findObj K D (some od) name=some (.value v)) (hh:handedIn v=true) (h:Q v { s with toks:=s.toks + 1 }):
  wpAny (model prog w) A (getAttr (.ref x) name expr) Q E s:=by
 obtain ⟨hh',g,d,t,os⟩:=s
 have hx:=I.at_
 have hc:=I.cls
 have L0:=I.type (M:=model prog w)
 have L1:=looks_findIn (M:=model prog w) X T.ga
 have L2:=looks_findIn (M:=model prog w) X T.gt
 have L3:=looks_find (M:=model prog w) X I hf
 have f3:=F.attr_ValueError.ga.bind (.ref x)
 unfold getAttr getAttrBy
 refine wpAny_bind (wpAny_mkText (wpAny_holding (wpAny_bind (L0.at (wpAny_bind (L1.at ?_))))))
 show wpAny _ _ (getAttrByItsOwn _ _ _ _ _ _) _ _ _
 unfold getAttrByItsOwn hookBefore
 refine wpAny_bind ?_
 show wpAny _ _ (typeLookup (.ref D) "__getattr__") _ _ _
 refine L2.at ?_
 refine wpAny_bind (wpAny_attempt (wpAny_holding ?_))
 unfold callGetattribute
 rw [if_neg (by cases expr <;> simp [onTheHeap])]
 unfold boundAndCalled
 rw [f3]
 refine wpAny_bind (wpAny_pure ?_)
 refine wpAny_call (codeAny_call_builtin F.attr_ValueError.ga.plain F.entry_bexc_ga (exc_check X hx hc T.mb ?_))
 repeat (any_goals (first | assumption | (with_reducible refine wpAny_loadPart_at hx ?_; rw [hc]) | with_reducible refine L3.at ?_ | wp_step))
 show wpAny _ _ (handedOut v) _ _ _
 rw [handedOut_of hh]
 exact wpAny_pure h
theorem kitx_exc (T:ExcK K D):KitX K (.ref x) (.ref D) (excP x (.ref D)) where
 ty:=fun M h _ p=>by
  obtain ⟨o,vs,ho,hc,_⟩:=p
  exact hc ▸ (Looks.ld ho).andThen .now
 it:=fun _ _ X _=>by
  obtain ⟨cdD,hcD,_⟩:=any_some T.ic
  unfold clsIn at hcD
  split at hcD
  ·rename_i c' d' cd' sl' ho
   intro A' Q' E' s' k q
   unfold isType loadHead
   exact wpAny_bind (wpAny_loadPart (k _ _ (X _ _ ho)) (wpAny_pure q))
  ·cases hcD
 ne:=fun h tp dd its n sl X htp=>by
  obtain ⟨cdD,hcD,_⟩:=any_some T.ic
  refine Bool.eq_false_iff.mpr fun q=>?_
  have e:D=tp:=Value.ref.inj (beq_iff_eq.mp q)
  subst e
  unfold clsIn at hcD
  split at hcD
  ·rename_i c' d' cd' sl' ho
   have z:=(X _ _ ho).symm.trans htp
   cases z
  ·cases hcD
 ca:=fun X p k=>by
  obtain ⟨o,vs,ho,hc,_⟩:=p
  exact exc_class T X ho hc k
end
section
variable {X : Cx}
theorem excPd_of {pins:List (Addr × Obj)} {σ:St} {H:Hp} {s:Shared} {ea dx:Addr} {cls:Value} (I:Inv X pins σ H s) (h:H ea=some (excD ea cls dx)):excP ea cls s.heap:=by
 obtain ⟨o,vs,h1,h2,h3,_,h5⟩:=(show excPd ea cls dx s.heap from (I.hok ea _ h).1)
 exact ⟨o,vs,h1,h2,h3,h5⟩
theorem isiEd (K:Frag) (hK:X.K=K:=by rfl):CallR X (.builtin "isinstance") (fun xs H Q=>∃ ea D dx c b,xs=[.ref ea,c]∧H ea=some (excD ea (.ref D) dx)∧ExcK K D∧((∃ C,c=.ref C∧kitOne K (.ref D) (.ref C)=some b) ∨ (∃ T,c=.ty T∧kitOne K (.ref D) (.type T)=some b))∧Q (.bl b) H):=by
 subst hK
 intro pins s σ H xs us Q I r h
 obtain ⟨ea,D,dx,c,b,rfl,he,T,hc,q⟩:=h
 obtain ⟨u,v,rfl,r1,r2⟩:=vals2 r
 cases r1
 rcases hc with ⟨C,rfl,e⟩ | ⟨T',rfl,e⟩
 ·cases r2
  exact kia_one (kitx_exc T) I.kIn (excPd_of I he) e (fun z=>nomatch z) fun tk=>⟨.bl b,H,I.tok tk,rfl,q⟩
 ·cases r2
  exact kia_one (kitx_exc T) I.kIn (excPd_of I he) e (fun z=>nomatch z) fun tk=>⟨.bl b,H,I.tok tk,rfl,q⟩
structure ExcA (K : Frag) (D : Addr) (f : Str) : Prop where
  k : ExcK K D
  na : findIn K (.ref D) f = some none
theorem getE_ok {pins:List (Addr × Obj)} {σ:St} {H:Hp} {s:Shared} {A:Around} {E:Value→Shared→Prop} {ea D dx:Addr} {f:Str} {fs:List (Str × V)} {v:V} {b:Bool} {Q:Value→Shared→Prop} (I:Inv X pins σ H s) (he:H ea=some (excD ea (.ref D) dx)) (hx:H dx=some (.xd fs)) (T:ExcA X.K D f) (l:fs.lookup f=some v)
  (h:∀ u s',Inv X pins σ H s'→RelV v u→Q u s'):wpAny (model X.prog X.w) A (getAttr (.ref ea) f b) Q E s:=by
 obtain ⟨o,ws,ho,hc,hd,hdi,_⟩:=id (show excPd ea (.ref D) dx s.heap from (I.hok ea _ he).1)
 obtain ⟨mA,hns,r⟩:=id (show ∃ mA,s.heap.Ns1 dx mA∧∀ f,RelO (fs.lookup f) (mA f) from I.hok dx _ hx)
 obtain ⟨od,hod,hl⟩:=lookIn_ns hns
 have J:InstAt s.heap ea o D (some od):=⟨ho,hc,by unfold notCls; rw [hd],by rw [hdi]; exact hod⟩
 obtain ⟨u,hu,ru⟩:=RelO.some_of (v:=v) (o:=mA f) (by rw [← l]; exact r f)
 exact exc_get T.k I.kIn J (findObj_own T.k.ic T.na rfl (by rw [hl,hu])) (handed_of ru) (h u _ (I.tok _) ru)
def tFldX (K:Frag) (ta:TE) (f:Str):TE:=fun σ H Q=>ta σ H fun x H1=>∃ ea D dx fs v,x=.ref ea∧H1 ea=some (excD ea (.ref D) dx)∧H1 dx=some (.xd fs)∧ExcA K D f∧fs.lookup f=some v∧Q v H1
theorem pe_fldX {e:Expr} {f:Str} {pos:Pos} {ta:TE} (he:PE X e ta) (hb:attributeBase e f X.env (eval e X.env)=eval e X.env):PE X (.Attribute e f pos) (tFldX X.K ta f):=by
 intro pins s σ H Q I h
 refine attr_of hb (thn (he pins s σ H _ I h) fun u s1 ⟨x,H1,I1,rx,ea,D,dx,fs,v,ex,h1,h2,T,l,q⟩=>?_)
 subst ex
 obtain rfl:u=Value.ref ea:=rx
 exact getE_ok I1 h1 h2 T l fun u' s2 I2 ru=>⟨v,H1,I2,ru,q⟩
end
end L2
namespace L2
open PySem PySem.Spec PyProof.Rows
section
variable {κ : Type} [DecidableEq κ]
def valV (kvs:List (κ × V)) (k:κ):Option V:=(kvs.find? fun kv=>decide (kv.1=k)).map (·.2)
def putK (kvs:List (κ × V)) (k:κ) (v:V):List (κ × V):=
 if (kvs.any fun kv=>decide (kv.1=k))=true then kvs.map (fun kv=>if kv.1=k then (kv.1,v) else kv) else kvs ++ [(k,v)]
def dropK (kvs:List (κ × V)) (k:κ):List (κ × V):=kvs.filter fun kv=>decide (kv.1 ≠ k)
theorem valV_pos {p:κ × V} {r:List (κ × V)} {k:κ} (e:p.1=k):valV (p :: r) k=some p.2:=by simp [valV,List.find?_cons,e]
theorem valV_neg {p:κ × V} {r:List (κ × V)} {k:κ} (e:¬ p.1=k):valV (p :: r) k=valV r k:=by simp [valV,List.find?_cons,e]
theorem valV_any (k:κ):∀ kvs:List (κ × V),(kvs.any fun kv=>decide (kv.1=k))=(valV kvs k).isSome
 | []=>rfl
 | p :: r=>by
  rw [List.any_cons]
  by_cases e:p.1=k
  ·simp only [valV_pos e,decide_eq_true e,Bool.true_or,Option.isSome_some]
  ·rw [valV_neg e,decide_eq_false e,Bool.false_or]; exact valV_any k r
theorem length_putK (kvs:List (κ × V)) (k:κ) (v:V):(putK kvs k v).length ≤ kvs.length + 1:=by
 unfold putK
 split
 ·rw [List.length_map]; omega
 ·rw [List.length_append,List.length_cons,List.length_nil]; omega
theorem putK_new {kvs:List (κ × V)} {k:κ} (v:V) (h:valV kvs k=none):putK kvs k v=kvs ++ [(k,v)]:=by
 unfold putK
 rw [valV_any,h]
 exact if_neg (by decide)
theorem RelO.isSome_eq {o:Option V} {u:Option Value} (r:RelO o u):o.isSome=u.isSome:=by
 cases o with
 | none=>cases u with
  | none=>rfl
  | some _=>exact (show False from r).elim
 | some _=>cases u with
  | none=>exact (show False from r).elim
  | some _=>rfl
theorem RelO.getD {o:Option V} {u:Option Value} {d:V} {d':Value} (r:RelO o u) (rd:RelV d d'):RelV (o.getD d) (u.getD d'):=by
 cases o with
 | none=>cases u with
  | none=>exact rd
  | some _=>exact (show False from r).elim
 | some _=>cases u with
  | none=>exact (show False from r).elim
  | some _=>exact r
theorem KV.val {kvs:List (κ × V)} {vs:List (κ × Value)} (r:KV kvs vs) (k:κ):RelO (valV kvs k) (valueAt vs k):=by
 unfold KV at r
 induction r with
 | nil=>exact True.intro
 | @cons p q ps qs h t ih=>
  obtain ⟨h1,h2⟩:=h
  by_cases e:p.1=k
  ·have e':q.1=k:=h1.symm.trans e
   have b:valueAt (q :: qs) k=some q.2:=by simp [valueAt,List.find?_cons,e']
   rw [valV_pos e,b]; exact h2
  ·have e':¬ q.1=k:=fun z=>e (h1.trans z)
   have b:valueAt (q :: qs) k=valueAt qs k:=by simp [valueAt,List.find?_cons,e']
   rw [valV_neg e,b]; exact ih
theorem KV.any {kvs:List (κ × V)} {vs:List (κ × Value)} (r:KV kvs vs) (k:κ):(kvs.any fun kv=>decide (kv.1=k))=vs.any fun kv=>decide (kv.1=k):=by
 unfold KV at r
 induction r with
 | nil=>rfl
 | cons h t ih=>rw [List.any_cons,List.any_cons,ih,h.1]
theorem KV.repl {kvs:List (κ × V)} {vs:List (κ × Value)} (r:KV kvs vs) (k:κ) {y:V} {u:Value} (ry:RelV y u):
  KV (kvs.map fun kv=>if kv.1=k then (kv.1,y) else kv) (vs.map fun kv=>if kv.1=k then (kv.1,u) else kv):=by
 unfold KV at r ⊢
 induction r with
 | nil=>exact .nil
 | @cons p q ps qs h t ih=>
  rw [List.map_cons,List.map_cons]
  refine .cons ?_ ih
  obtain ⟨h1,h2⟩:=h
  by_cases e:p.1=k
  ·rw [if_pos e,if_pos (h1.symm.trans e)]; exact ⟨h1,ry⟩
  ·rw [if_neg e,if_neg (fun z=>e (h1.trans z))]; exact ⟨h1,h2⟩
theorem KV.put {kvs:List (κ × V)} {vs:List (κ × Value)} (r:KV kvs vs) (k:κ) {y:V} {u:Value} (ry:RelV y u):KV (putK kvs k y) (stored vs k u):=by
 unfold putK stored
 rw [r.any k]
 by_cases e:(vs.any fun kv=>decide (kv.1=k))=true
 ·rw [if_pos e,if_pos e]; exact r.repl k ry
 ·rw [if_neg e,if_neg e]; exact Paired.snoc r ⟨rfl,ry⟩
theorem KV.drop {kvs:List (κ × V)} {vs:List (κ × Value)} (r:KV kvs vs) (k:κ):KV (dropK kvs k) (without vs k):=by
 unfold KV at r ⊢
 unfold dropK without
 induction r with
 | nil=>exact .nil
 | @cons p q ps qs h t ih=>
  obtain ⟨h1,h2⟩:=h
  rw [List.filter_cons,List.filter_cons]
  by_cases e:p.1=k
  ·have a:¬ decide (p.1 ≠ k)=true:=by simp [e]
   have b:¬ decide (q.1 ≠ k)=true:=by simp [h1.symm.trans e]
   rw [if_neg a,if_neg b]; exact ih
  ·have e':¬ q.1=k:=fun z=>e (h1.trans z)
   have a:decide (p.1 ≠ k)=true:=by simp [e]
   have b:decide (q.1 ≠ k)=true:=by simp [e']
   rw [if_pos a,if_pos b]; exact .cons ⟨h1,h2⟩ ih
theorem KV.keys {kvs:List (κ × V)} {vs:List (κ × Value)} (r:KV kvs vs):kvs.map (·.1)=vs.map (·.1):=by
 unfold KV at r
 induction r with
 | nil=>rfl
 | cons h t ih=>rw [List.map_cons,List.map_cons,ih,h.1]
theorem KV.length {kvs:List (κ × V)} {vs:List (κ × Value)} (r:KV kvs vs):kvs.length=vs.length:=Paired.length r
theorem dropK_le (kvs:List (κ × V)) (k:κ):(dropK kvs k).length ≤ kvs.length:=List.length_filter_le _ _
end
theorem kV_is {P:Program} {w:World} {k:Key} {u:Value} (r:RelV (kV k) u):(mixKind P w).is k u=true:=by
 cases k with
 | inl i=>obtain ⟨t,e⟩:=(show ∃ t,u=Value.int i t from r); subst e; exact mixKind_int P w i t
 | inr x=>obtain ⟨t,e⟩:=(show ∃ t,u=Value.str x t from r); subst e; exact mixKind_str P w x t
theorem kV_inj {a b:Key} (e:kV a=kV b):a=b:=by
 cases a with
 | inl i=>cases b with
  | inl j=>have e':V.int i=V.int j:=e; injection e' with e'; rw [e']
  | inr y=>exact nomatch (show V.int i=V.str y from e)
 | inr x=>cases b with
  | inl j=>exact nomatch (show V.str x=V.int j from e)
  | inr y=>have e':V.str x=V.str y:=e; injection e' with e'; rw [e']
theorem items_are {P:Program} {w:World}:∀ {ks:List Key} {us:List Value},Vals (ks.map kV) us→ItemsAre (mixKind P w) ks us
 | [],_,r=>by rw [List.map_nil] at r; cases r; exact .nil
 | k :: ks,_,r=>by
  rw [List.map_cons] at r
  cases r with
  | cons h t=>exact .cons (kV_is h) (items_are t)
abbrev KT (H:Hp):List (List Key × V)→List (List Key × Addr × Value)→Prop:=Paired fun p q=>p.1=q.1∧H q.2.1=some (.tup (p.1.map kV))∧RelV p.2 q.2.2
theorem KT.val {H:Hp} {kvs:List (List Key × V)} {xs:List (List Key × Addr × Value)} (r:KT H kvs xs) (k:List Key):RelO (valV kvs k) ((atKey xs k).map (·.2)):=by
 induction r with
 | nil=>exact True.intro
 | @cons p q ps qs h t ih=>
  obtain ⟨h1,_,h2⟩:=h
  by_cases e:p.1=k
  ·have e':q.1=k:=h1.symm.trans e
   have b:atKey (q :: qs) k=some q.2:=by simp [atKey,List.find?_cons,e']
   rw [valV_pos e,b]; exact h2
  ·have e':¬ q.1=k:=fun z=>e (h1.trans z)
   have b:atKey (q :: qs) k=atKey qs k:=by simp [atKey,List.find?_cons,e']
   rw [valV_neg e,b]; exact ih
theorem KT.repl {H:Hp} {kvs:List (List Key × V)} {xs:List (List Key × Addr × Value)} (r:KT H kvs xs) (k:List Key) {y:V} {u:Value} (ry:RelV y u):
  KT H (kvs.map fun kv=>if kv.1=k then (kv.1,y) else kv) (xs.map (putAt k u)):=by
 induction r with
 | nil=>exact .nil
 | @cons p q ps qs h t ih=>
  rw [List.map_cons,List.map_cons]
  refine .cons ?_ ih
  obtain ⟨h1,h2,h3⟩:=h
  unfold putAt
  by_cases e:p.1=k
  ·rw [if_pos e,if_pos (h1.symm.trans e)]; exact ⟨h1,h2,ry⟩
  ·rw [if_neg e,if_neg (fun z=>e (h1.trans z))]; exact ⟨h1,h2,h3⟩
theorem KT.put {H:Hp} {kvs:List (List Key × V)} {xs:List (List Key × Addr × Value)} (r:KT H kvs xs) (k:List Key) {b:Addr} {y:V} {u:Value} (hb:H b=some (.tup (k.map kV))) (ry:RelV y u):
  KT H (putK kvs k y) (storedH xs k b u):=by
 have e:(kvs.any fun kv=>decide (kv.1=k))=(atKey xs k).isSome:=by
  rw [valV_any,(r.val k).isSome_eq,Option.isSome_map]
 unfold putK storedH
 rw [e]
 by_cases q:(atKey xs k).isSome=true
 ·rw [if_pos q,if_pos q]; exact r.repl k ry
 ·rw [if_neg q,if_neg q]; exact Paired.snoc r ⟨rfl,hb,ry⟩
theorem KT.keeps {H H':Hp} {kvs:List (List Key × V)} {xs:List (List Key × Addr × Value)} (r:KT H kvs xs) (ht:∀ b ys,H b=some (.tup ys)→H' b=some (.tup ys)):KT H' kvs xs:=
 Paired.mapP r fun _ _ z=>⟨z.1,ht _ _ z.2.1,z.2.2⟩
section
variable {P : Program} {w : World} {H : Hp} {h : Heap} {a : Addr}
theorem rd_of {u:HO} (ok:HOk P w H h) (e:Rd H a u):ObjOk P w H h a u:=e.ok ok
theorem dk_rd {kvs:List (Key × V)} (ok:HOk P w H h) (e:Rd H a (.dK kvs)):kvs.length ≤ sizeLine∧(a == sysModules)=false∧∃ vs,KV kvs vs∧h.DictOf (mixKind P w) a vs:=
 show ObjOk P w H h a (.dK kvs) from rd_of ok e
theorem dk_of {kvs:List (Key × V)} (ok:HOk P w H h) (e:H a=some (.dK kvs)):kvs.length ≤ sizeLine∧(a == sysModules)=false∧∃ vs,KV kvs vs∧h.DictOf (mixKind P w) a vs:=dk_rd ok (.inl e)
theorem key_of {ks:List Key} (ok:HOk P w H h) (e:H a=some (.tup (ks.map kV))):(tupleKind (mixKind P w)).is h ks a:=by
 obtain ⟨_,its,r,o,h1,h2,n,h3⟩:=(show ObjOk P w H h a (.tup (ks.map kV)) from ok a _ e)
 exact ⟨o,its.toArray,n,h1,h2,h3,by simpa using items_are r⟩
theorem dt_rd {kvs:List (List Key × V)} (ok:HOk P w H h) (e:Rd H a (.dT kvs)):kvs.length ≤ sizeLine∧(a == sysModules)=false∧
  ∃ xs,KT H kvs xs∧h.DictOfH (tupleKind (mixKind P w)) a xs:=by
 obtain ⟨z,y,xs,r,o,es,ep,h1,h2,h3,h4,h5⟩:=(show ObjOk P w H h a (.dT kvs) from rd_of ok e)
 refine ⟨z,y,xs,r,o,es,ep,h1,h2,h3,h4,fun x hx=>?_,h5⟩
 have all:∀ {l:List (List Key × V)} {m:List (List Key × Addr × Value)},KT H l m→∀ x ∈ m,(tupleKind (mixKind P w)).is h x.1 x.2.1:=by
  intro l m q
  induction q with
  | nil=>intro x hx; exact nomatch hx
  | @cons p q ps qs hq t ih=>
   intro x hx
   rcases List.mem_cons.mp hx with e | hx
   ·subst e
    exact key_of ok (by rw [← hq.1]; exact hq.2.1)
   ·exact ih x hx
 exact all r x hx
theorem dt_of {kvs:List (List Key × V)} (ok:HOk P w H h) (e:H a=some (.dT kvs)):kvs.length ≤ sizeLine∧(a == sysModules)=false∧
  ∃ xs,KT H kvs xs∧h.DictOfH (tupleKind (mixKind P w)) a xs:=dt_rd ok (.inl e)
end
def DGet (H:Hp) (a:Addr) (y:V) (r:Option V):Prop:=
 (∃ kvs k,Rd H a (.dK kvs)∧y=kV k∧r=valV kvs k) ∨ ∃ kvs k b,Rd H a (.dT kvs)∧y=.ref b∧H b=some (.tup (k.map kV))∧r=valV kvs k
def DPut (H:Hp) (a:Addr) (y v:V) (H':Hp):Prop:=
 (∃ kvs k,H a=some (.dK kvs)∧y=kV k∧kvs.length < sizeLine∧H'=upd H a (.dK (putK kvs k v))) ∨
 ∃ kvs k b,H a=some (.dT kvs)∧y=.ref b∧H b=some (.tup (k.map kV))∧kvs.length < sizeLine∧H'=upd H a (.dT (putK kvs k v))
theorem DGet.k {H:Hp} {a:Addr} {kvs:List (Key × V)} {k:Key} (e:H a=some (.dK kvs)):DGet H a (kV k) (valV kvs k):=.inl ⟨kvs,k,.inl e,rfl,rfl⟩
theorem DGet.t {H:Hp} {a b:Addr} {kvs:List (List Key × V)} {k:List Key} (e:H a=some (.dT kvs)) (eb:H b=some (.tup (k.map kV))):DGet H a (.ref b) (valV kvs k):=.inr ⟨kvs,k,b,.inl e,rfl,eb,rfl⟩
theorem DPut.k {H:Hp} {a:Addr} {kvs:List (Key × V)} {k:Key} {v:V} (e:H a=some (.dK kvs)) (hl:kvs.length < sizeLine):DPut H a (kV k) v (upd H a (.dK (putK kvs k v))):=.inl ⟨kvs,k,e,rfl,hl,rfl⟩
theorem DPut.t {H:Hp} {a b:Addr} {kvs:List (List Key × V)} {k:List Key} {v:V} (e:H a=some (.dT kvs)) (eb:H b=some (.tup (k.map kV))) (hl:kvs.length < sizeLine):
  DPut H a (.ref b) v (upd H a (.dT (putK kvs k v))):=.inr ⟨kvs,k,b,e,rfl,eb,hl,rfl⟩
section
variable {X : Cx} {pins : List (Addr × Obj)} {σ : St} {H : Hp} {s : Shared} {a : Addr} {y v : V} {u r : Value} {o : Option V} {A : Around} {E : Value → Shared → Prop}
theorem Inv.big (I:Inv X pins σ H s):sysModules < s.heap.objs.size:=by
 have h:mainGlobals < s.heap.objs.size:=(I.mod.glob.keeps I.bk).lt
 exact Nat.lt_trans (by decide) h
theorem d_getItem {Q:Value→Shared→Prop} (hu:A.units + 1 < cLine) (I:Inv X pins σ H s) (g:DGet H a y (some v)) (ry:RelV y u) (h:∀ w' s',Inv X pins σ H s'→RelV v w'→Q w' s'):
  wpAny (model X.prog X.w) A (getItem (.ref a) u) Q E s:=by
 rcases g with ⟨kvs,k,e,ey,l⟩ | ⟨kvs,k,b,e,ey,eb,l⟩
 ·subst ey
  obtain ⟨z,hd,vs,rel,dd⟩:=dk_rd I.hok e
  obtain ⟨w',hw,rw'⟩:=RelO.some_of (v:=v) (o:=valueAt vs k) (by rw [l]; exact rel.val k)
  exact wpAny_getItem_of (kV_is ry) dd.mapOf hw (h w' _ (I.tok _) rw')
 ·subst ey
  cases (show u=Value.ref b from ry)
  obtain ⟨z,hd,xs,rel,dd⟩:=dt_rd I.hok e
  obtain ⟨w',hw,rw'⟩:=RelO.some_of (v:=v) (o:=(atKey xs k).map (·.2)) (by rw [l]; exact rel.val k)
  obtain ⟨p,hp,hp2⟩:=Option.map_eq_some_iff.mp hw
  refine wpAny_getItem_heap (tupleKind_room_in1 hu) (key_of I.hok eb) dd hp ?_
  rw [hp2]
  exact h w' _ (I.tok _) rw'
theorem d_in {Q:Value→Shared→Prop} (hu:A.units + 1 < cLine) (I:Inv X pins σ H s) (g:DGet H a y o) (ry:RelV y u) (h:∀ s',Inv X pins σ H s'→Q (.bool o.isSome) s'):
  wpAny (model X.prog X.w) A (compareOp .In u (.ref a)) Q E s:=by
 rcases g with ⟨kvs,k,e,ey,l⟩ | ⟨kvs,k,b,e,ey,eb,l⟩
 ·subst ey
  obtain ⟨z,hd,vs,rel,dd⟩:=dk_rd I.hok e
  refine wpAny_in_of (kV_is ry) hd dd.mapOf ?_
  rw [← (rel.val k).isSome_eq,← l]
  exact h _ (I.tok _)
 ·subst ey
  cases (show u=Value.ref b from ry)
  obtain ⟨z,hd,xs,rel,dd⟩:=dt_rd I.hok e
  refine wpAny_in_heap (tupleKind_room_in1 hu) (key_of I.hok eb) hd dd ?_
  have q:=(rel.val k).isSome_eq
  rw [Option.isSome_map] at q
  rw [← q,← l]
  exact h _ (I.tok _)
theorem d_notIn {Q:Value→Shared→Prop} (hu:A.units + 1 < cLine) (I:Inv X pins σ H s) (g:DGet H a y o) (ry:RelV y u) (h:∀ s',Inv X pins σ H s'→Q (.bool (!o.isSome)) s'):
  wpAny (model X.prog X.w) A (compareOp .NotIn u (.ref a)) Q E s:=by
 rcases g with ⟨kvs,k,e,ey,l⟩ | ⟨kvs,k,b,e,ey,eb,l⟩
 ·subst ey
  obtain ⟨z,hd,vs,rel,dd⟩:=dk_rd I.hok e
  refine wpAny_notIn_of (kV_is ry) hd dd.mapOf ?_
  rw [← (rel.val k).isSome_eq,← l]
  exact h _ (I.tok _)
 ·subst ey
  cases (show u=Value.ref b from ry)
  obtain ⟨z,hd,xs,rel,dd⟩:=dt_rd I.hok e
  refine wpAny_notIn_heap (tupleKind_room_in1 hu) (key_of I.hok eb) hd dd ?_
  have q:=(rel.val k).isSome_eq
  rw [Option.isSome_map] at q
  rw [← q,← l]
  exact h _ (I.tok _)
theorem d_write {h':Heap} {t':Nat} {ob:HO} (I:Inv X pins σ H s) (mu:Mut (H a)) (hs:Heap.SameBut a s.heap h') (he:∃ q,h'.get? a=some q) (new:ObjOk X.prog X.w (upd H a ob) h' a ob):
  Inv X pins σ (upd H a ob) { s with heap:=h',toks:=t' }:=
 I.write (x:=a) (e:=a) mu (.inl rfl) (fun b q hb z=>(hs.2 b hb).trans z) he new
theorem dk_new {P:Program} {w:World} {H':Hp} {h':Heap} {kvs:List (Key × V)} {vs:List (Key × Value)} (z:kvs.length ≤ sizeLine) (hd:(a == sysModules)=false) (rel:KV kvs vs) (dd:h'.DictOf (mixKind P w) a vs):
  ObjOk P w H' h' a (.dK kvs):=⟨z,hd,vs,rel,dd⟩
theorem d_setItem {H':Hp} {Q:Unit→Shared→Prop} (hu:A.units + 1 < cLine) (I:Inv X pins σ H s) (g:DPut H a y v H') (ry:RelV y u) (rv:RelV v r) (h:∀ s',Inv X pins σ H' s'→Q () s'):
  wpAny (model X.prog X.w) A (setItem (.ref a) u r) Q E s:=by
 rcases g with ⟨kvs,k,e,ey,l,eH⟩ | ⟨kvs,k,b,e,ey,eb,l,eH⟩
 ·subst ey eH
  obtain ⟨z,hd,vs,rel,dd⟩:=dk_of I.hok e
  have hz:vs.length ≤ sizeLine:=by rw [← rel.length]; exact z
  have hl:(putK kvs k v).length ≤ sizeLine:=by have:=length_putK kvs k v; omega
  refine wpAny_setItem_pairs (hsz:=hz) (kV_is ry) dd fun h' dd' hs=>h _ ?_
  have he:∃ q,h'.get? a=some q:=let ⟨q,_,_,hq,_⟩:=dd'; ⟨q,hq⟩
  exact d_write I (by rw [e]; exact True.intro) hs he (dk_new hl hd (rel.put k rv) dd')
 ·subst ey eH
  cases (show u=Value.ref b from ry)
  obtain ⟨z,hd,xs,rel,dd⟩:=dt_of I.hok e
  have hz:xs.length ≤ sizeLine:=by rw [← Paired.length rel]; exact z
  have hl:(putK kvs k v).length ≤ sizeLine:=by have:=length_putK kvs k v; omega
  refine wpAny_setItem_heap (hsz:=hz) (tupleKind_room_in1 hu) (key_of I.hok eb) dd fun h' dd' hs=>h _ ?_
  obtain ⟨q,es,ep,hq,h2,h3,h4,_,h5⟩:=dd'
  refine d_write I (by rw [e]; exact True.intro) hs ⟨q,hq⟩ ⟨hl,hd,_,(rel.put k eb rv).keeps fun c ys ec=>?_,q,es,ep,hq,h2,h3,h4,h5⟩
  rw [upd_ne (ne_of ec e (fun z=>nomatch z))]
  exact ec
end
section
variable {X : Cx} {pins : List (Addr × Obj)} {σ : St} {H : Hp} {s : Shared} {a : Addr} {kvs : List (Key × V)} {k : Key} {u : Value} {A : Around} {E : Value → Shared → Prop}
theorem d_pop {v:V} {more:List Value} {Q:Value→Shared→Prop} (I:Inv X pins σ H s) (e:H a=some (.dK kvs)) (ry:RelV (kV k) u) (l:valV kvs k=some v) (hm:more=[] ∨ ∃ x,more=[x])
  (h:∀ w' s',Inv X pins σ (upd H a (.dK (dropK kvs k))) s'→RelV v w'→Q w' s'):wpAny (model X.prog X.w) A (call (.builtin "dict.pop") (.ref a :: u :: more)) Q E s:=by
 obtain ⟨z,hd,vs,rel,dd⟩:=dk_of I.hok e
 obtain ⟨w',hw,rw'⟩:=RelO.some_of (v:=v) (o:=valueAt vs k) (by rw [← l]; exact rel.val k)
 have hp:(keyPart u).isSome=true:=by
  cases k with
  | inl i=>obtain ⟨t,q⟩:=(show ∃ t,u=Value.int i t from ry); subst q; rfl
  | inr x=>obtain ⟨t,q⟩:=(show ∃ t,u=Value.str x t from ry); subst q; rfl
 have ha:argsOk "dict.pop" ⟨.ref a :: u :: more,[]⟩:=by
  rcases hm with q | ⟨x,q⟩
  ·subst q; exact PySem.F.args_dict_pop_2 _ _
  ·subst q; exact PySem.F.args_dict_pop_3 _ _ _
 refine call_meetsIn PySem.F.slot_dict_pop dd.typeIs PySem.F.entry_dict_pop ha (meets_dict_pop_there (mixKind X.prog X.w) a (kV_is ry) more hm hp)
  ⟨vs,w',dd,by rw [← rel.length]; exact z,hw,fun h' dd' hs=>h w' _ ?_ rw'⟩
 have he:∃ q,h'.get? a=some q:=let ⟨q,_,_,hq,_⟩:=dd'; ⟨q,hq⟩
 exact d_write I (by rw [e]; exact True.intro) hs he (dk_new (Nat.le_trans (dropK_le kvs k) z) hd (rel.drop k) dd')
end
def NoSl (i:Expr):Prop:=∀ ov iv,subscripted i false ov iv=operate [ov,iv] (getItem ov iv)
theorem subD_of {prog:Program} {w:World} {A:Around} {E:Value→Shared→Prop} {s:Shared} {env:Env} {value slice:Expr} {pos:Pos} {T id:String} {Q:Value→Shared→Prop}
  (hl:typeLookup (.type T) "__getitem__"=pure (some (.builtin id))) (hs:NoSl slice)
  (h:wpAny (model prog w) A (eval value env) (fun o s₁=>wpAny (model prog w) A (eval slice env) (fun i s₂=>s₂.TypeIs o T∧wpAny (model prog w) A (getItem o i) Q E s₂) E s₁) E s):
  wpAny (model prog w) A (eval (.Subscript value slice pos) env) Q E s:=by
 refine Subscript_ (wpAny_mono h (fun o s₁ h₁=>wpAny_mono h₁ (fun i s₂ h₂=>?_) fun _ _ x=>x) fun _ _ x=>x)
 obtain ⟨hT,h₂⟩:=h₂
 unfold subscriptTail
 refine wpAny_bind ?_
 rw [getitemInPython_of_ne hT.not_modules]
 refine wpAny_bind (wpAny_specialOf hT hl ?_)
 have fin:wpAny (model prog w) A (subscripted slice false o i) (fun r s₃=>wpAny (model prog w) A (letTemporaryGo value o r >>= fun _=>pure r) Q E s₃) E s₂:=by
  rw [hs o i]
  exact wpAny_operating (wpAny_mono h₂ (fun r s₃ h₃=>wpAny_bind (wpAny_letTemporaryGo (wpAny_pure h₃))) fun _ _ x=>x)
 first
  | exact wpAny_pure (wpAny_bind fin)
  | exact wpAny_bind (wpAny_pure (wpAny_bind fin))
  | exact wpAny_bind fin
theorem dict_typeIs {X:Cx} {pins:List (Addr × Obj)} {σ:St} {H:Hp} {s:Shared} {a:Addr} {y:V} {o:Option V} (I:Inv X pins σ H s) (g:DGet H a y o):s.TypeIs (.ref a) "dict":=by
 rcases g with ⟨kvs,k,e,_,_⟩ | ⟨kvs,k,b,e,_,_,_⟩
 ·obtain ⟨_,_,vs,_,dd⟩:=dk_rd I.hok e
  exact dd.typeIs
 ·obtain ⟨_,_,xs,_,dd⟩:=dt_rd I.hok e
  exact dd.typeIs
def tDGet (td ty:TE):TE:=fun σ H Q=>td σ H fun x H1=>ty σ H1 fun y H2=>∃ a v,x=.ref a∧DGet H2 a y (some v)∧Q v H2
def tDIn (ty td:TE):TE:=fun σ H Q=>ty σ H fun y H1=>td σ H1 fun x H2=>∃ a o,x=.ref a∧DGet H2 a y o∧Q (.bl o.isSome) H2
def tDNotIn (ty td:TE):TE:=fun σ H Q=>ty σ H fun y H1=>td σ H1 fun x H2=>∃ a o,x=.ref a∧DGet H2 a y o∧Q (.bl (!o.isSome)) H2
def sDPut (td ty tv:TE):TS:=fun D σ H=>tv σ H fun v H1=>td σ H1 fun x H2=>ty σ H2 fun y H3=>∃ a H4,x=.ref a∧DPut H3 a y v H4∧D.nx σ H4
section
variable {X : Cx} {o i e value : Expr} {pos pos' tpos : Pos} {td ty tv : TE}
theorem pe_dget (hu:X.A.units + 1 < cLine) (ho:PE X o td) (hi:PE X i ty) (hs:NoSl i):PE X (.Subscript o i pos) (tDGet td ty):=by
 intro pins s σ H Q I h
 refine subD_of PySem.F.slot_dict_getitem.lookup hs (thn (ho pins s σ H _ I h) fun u s1 ⟨x,H1,I1,rx,q1⟩=>thn (hi pins s1 σ H1 _ I1 q1) fun iv s2 ⟨y,H2,I2,ry,a,v,ex,g,q2⟩=>?_)
 subst ex
 obtain rfl:u=Value.ref a:=rx
 exact ⟨dict_typeIs I2 g,d_getItem hu I2 g ry fun w' s3 I3 rw'=>⟨v,H2,I3,rw',q2⟩⟩
theorem pc_din (hu:X.A.units + 1 < cLine) (hi:PE X i ty) (ho:PE X o td):PC X .In i o (tDIn ty td):=by
 intro pins s σ H Q I h
 refine thn (hi pins s σ H _ I h) fun iv s1 ⟨y,H1,I1,ry,q1⟩=>thn (ho pins s1 σ H1 _ I1 q1) fun u s2 ⟨x,H2,I2,rx,a,ov,ex,g,q2⟩=>?_
 subst ex
 obtain rfl:u=Value.ref a:=rx
 exact d_in hu I2 g ry fun s3 I3=>⟨.bl ov.isSome,H2,I3,rfl,q2⟩
theorem pc_dnotin (hu:X.A.units + 1 < cLine) (hi:PE X i ty) (ho:PE X o td):PC X .NotIn i o (tDNotIn ty td):=by
 intro pins s σ H Q I h
 refine thn (hi pins s σ H _ I h) fun iv s1 ⟨y,H1,I1,ry,q1⟩=>thn (ho pins s1 σ H1 _ I1 q1) fun u s2 ⟨x,H2,I2,rx,a,ov,ex,g,q2⟩=>?_
 subst ex
 obtain rfl:u=Value.ref a:=rx
 exact d_notIn hu I2 g ry fun s3 I3=>⟨.bl (!ov.isSome),H2,I3,rfl,q2⟩
theorem ps_dput (hu:X.A.units + 1 < cLine) (ho:PE X o td) (hi:PE X i ty) (hv:PE X value tv) (hs:swapsWith value (some (.Subscript o i pos')) pos.line X.env=pure false):
  PS X (.Assign [.Subscript o i pos'] value pos) (sDPut td ty tv):=by
 intro pins s σ H D I h
 refine wpAny_Assign_Subscript (thn (hv pins s σ H _ I h) fun r s1 ⟨v,H1,I1,rv,q1⟩=>thn (ho pins s1 σ H1 _ I1 q1) fun u s2 ⟨x,H2,I2,rx,q2⟩=>thn (hi pins s2 σ H2 _ I2 q2) fun iv s3 ⟨y,H3,I3,ry,a,H4,ex,g,q3⟩=>?_) hs
 subst ex
 obtain rfl:u=Value.ref a:=rx
 exact d_setItem hu I3 g ry rv fun s4 I4=>⟨σ,H4,I4,q3⟩
end
theorem dk_empty {P:Program} {w:World} {H:Hp} (h:Heap) (hb:sysModules < h.objs.size):ObjOk P w H (h.push { cls:=.type "dict",data:=.dict #[] }) h.objs.size (.dK []):=
 ⟨Nat.zero_le _,beq_eq_false_iff_ne.mpr (Ne.symm (Nat.ne_of_lt hb)),[],.nil,Heap.DictOf.new h⟩
def tDNewK:TE:=fun _ H Q=>∀ p,H p=none→Q (.ref p) (upd H p (.dK []))
section
variable {X : Cx} {pos : Pos}
theorem pe_dnewK:PE X (.Dict [] [] pos) tDNewK:=fun pins s σ H Q I h=>
 wpAny_Dict_empty ⟨.ref s.heap.objs.size,_,I.laid (a:=s.heap.objs.size) (o:=.dK []) (t':=s.toks) (fun _ _ q=>Heap.get?_push_of_some _ q) (Nat.le_refl _) (dk_empty s.heap I.big),rfl,h _ (I.hok.fresh (Nat.le_refl _))⟩
end
def tPairs:List (TE × TE)→St→Hp→(List (V × V)→Hp→Prop)→Prop
 | [],_,H,Q=>Q [] H
 | (tk,tv) :: r,σ,H,Q=>tk σ H fun x H1=>tv σ H1 fun y H2=>tPairs r σ H2 fun ps H3=>Q ((x,y) :: ps) H3
abbrev VV:List (V × V)→List (Value × Value)→Prop:=Paired fun p q=>RelV p.1 q.1∧RelV p.2 q.2
def PPs (X:Cx) (pos:Pos) (keys:List (Option Expr)) (values:List Expr) (trs:List (TE × TE)):Prop:=
 ∀ (pins:List (Addr × Obj)) (s:Shared) (σ:St) (H:Hp) (Q:List (V × V)→Hp→Prop),Inv X pins σ H s→tPairs trs σ H Q→
  wpAny (model X.prog X.w) X.A (evalPairs (pairTrees keys values X.env pos)) (fun vs s'=>∃ ps H',Inv X pins σ H' s'∧VV ps vs∧Q ps H') X.xe s
theorem pps_nil {X:Cx} {pos:Pos}:PPs X pos [] [] []:=fun pins s σ H Q I h=>pairTrees_nil_walk ⟨[],H,I,.nil,h⟩
theorem pps_cons {X:Cx} {pos:Pos} {k v:Expr} {ks:List (Option Expr)} {vs:List Expr} {tk tv:TE} {trs:List (TE × TE)} (hk:PE X k tk) (hv:PE X v tv) (hr:PPs X pos ks vs trs):
  PPs X pos (some k :: ks) (v :: vs) ((tk,tv) :: trs):=fun pins s σ H Q I h=>
 pairTrees_cons_walk (thn (hk pins s σ H _ I h) fun u s1 ⟨x,H1,I1,rx,q1⟩=>thn (hv pins s1 σ H1 _ I1 q1) fun w2 s2 ⟨y,H2,I2,ry,q2⟩=>
  thn (hr pins s2 σ H2 _ I2 q2) fun ws s3 ⟨ps,H3,I3,rel,q3⟩=>⟨(x,y) :: ps,H3,I3,.cons ⟨rx,ry⟩ rel,q3⟩)
def mergeK (kvs more:List (Key × V)):List (Key × V):=more.foldl (fun acc kv=>putK acc kv.1 kv.2) kvs
theorem KV.merge:∀ {more:List (Key × V)} {rs:List (Key × Value)} {kvs:List (Key × V)} {vs:List (Key × Value)},KV more rs→KV kvs vs→KV (mergeK kvs more) (merged vs rs):=by
 intro more rs kvs vs r
 unfold KV at r
 induction r generalizing kvs vs with
 | nil=>intro q; exact q
 | @cons p q ps qs h t ih=>
  intro r0
  have e:KV (putK kvs p.1 p.2) (stored vs q.1 q.2):=by
   have:=r0.put p.1 h.2
   rw [← h.1]; exact this
  exact ih e
theorem length_mergeK:∀ (more kvs:List (Key × V)),(mergeK kvs more).length ≤ kvs.length + more.length
 | [],kvs=>by show kvs.length ≤ kvs.length + 0; omega
 | p :: r,kvs=>by
  have h1:=length_mergeK r (putK kvs p.1 p.2)
  have h2:=length_putK kvs p.1 p.2
  show (mergeK (putK kvs p.1 p.2) r).length ≤ _
  rw [List.length_cons]; omega
theorem carries_of {P:Program} {w:World}:∀ {kvs:List (Key × V)} {ws:List (Value × Value)},VV (kvs.map fun kv=>(kV kv.1,kv.2)) ws→∃ rs,Carries (mixKind P w) ws rs∧KV kvs rs
 | [],_,r=>by rw [List.map_nil] at r; cases r; exact ⟨[],True.intro,.nil⟩
 | p :: kvs,_,r=>by
  rw [List.map_cons] at r
  cases r with
  | @cons a b as bs h t=>
   obtain ⟨rs,c,q⟩:=carries_of (P:=P) (w:=w) t
   obtain ⟨b1,b2⟩:=b
   exact ⟨(p.1,b2) :: rs,⟨kV_is h.1,rfl,c⟩,.cons ⟨rfl,h.2⟩ q⟩
def tDisp (trs:List (TE × TE)):TE:=fun σ H Q=>∀ p,H p=none→tPairs trs σ (upd H p (.dK [])) fun ps H2=>H2 p=some (.dK [])∧∃ kvs:List (Key × V),ps=kvs.map (fun kv=>(kV kv.1,kv.2))∧kvs.length ≤ 15∧Q (.ref p) (upd H2 p (.dK (mergeK [] kvs)))
theorem pe_disp {X:Cx} {pos:Pos} {keys:List (Option Expr)} {values:List Expr} {trs:List (TE × TE)} (h:PPs X pos keys values trs) (hall:keys.all (·.isSome)=true) (hl:keys.length=values.length) (h0:keys ≠ [])
  (h15:keys.length ≤ 15):PE X (.Dict keys values pos) (tDisp trs):=by
 intro pins s σ H Q I q
 have hn:=I.hok.fresh (Nat.le_refl s.heap.objs.size)
 have I1:=I.laid (a:=s.heap.objs.size) (o:=.dK []) (h':=s.heap.push { cls:=.type "dict",data:=.dict #[] }) (t':=s.toks) (fun _ _ q=>Heap.get?_push_of_some _ q) (Nat.le_refl _) (dk_empty s.heap I.big)
 refine wpAny_Dict_walk (knd:=mixKind X.prog X.w) hall hl h0 h15 (thn (h pins _ σ _ _ I1 (q _ hn)) fun ws s2 ⟨ps,H2,I2,rel,e,kvs,ep,lk,q2⟩=>?_)
 subst ep
 obtain ⟨rs,c,rk⟩:=carries_of (P:=X.prog) (w:=X.w) rel
 obtain ⟨z,hd,vs0,r0,dd⟩:=dk_of I2.hok e
 cases r0
 refine ⟨rs,c,dd,fun h' dd' hs=>⟨.ref s.heap.objs.size,_,?_,rfl,q2⟩⟩
 have hz:(mergeK [] kvs).length ≤ sizeLine:=by
  have h1:=length_mergeK kvs []
  rw [List.length_nil] at h1
  rw [sizeLine_eq]; omega
 have he:∃ q,h'.get? s.heap.objs.size=some q:=let ⟨q,_,_,hq,_⟩:=dd'; ⟨q,hq⟩
 exact d_write I2 (by rw [e]; exact True.intro) hs he (dk_new hz hd (rk.merge .nil) dd')
structure M1 (X : Cx) (o : Expr) (m : Str) (apos : Pos) (e : Expr) (cpos : Pos) : Prop where
  base : attributeBase o m X.env (eval o X.env) = eval o X.env
  few : ((backTo cpos (starEach [e] X.env)).all (fun x => !x.1) && (backToKw cpos (keywordEach [] X.env)).all (fun x => x.1.isSome)
    && decide (([e] : List Expr).length + ([] : List Keyword).length + (if ([] : List Keyword).isEmpty then 0 else 1) < 30)) = true
  line : (apos.endLine == cpos.line) = true
  trees : backTo cpos (starEach [e] X.env) = [(false, eval e X.env)]
def IsD (H:Hp) (a:Addr):Prop:=(∃ kvs,Rd H a (.dK kvs)) ∨ ∃ kvs,Rd H a (.dT kvs)
theorem isD_at {X:Cx} {pins:List (Addr × Obj)} {σ:St} {H:Hp} {s:Shared} {a:Addr} (I:Inv X pins σ H s) (d:IsD H a):
  s.TypeIs (.ref a) "dict"∧(∀ b,Value.ref a=.ref b→∃ ob,s.heap.get? b=some ob∧ob.dict=none)∧(a == sysModules)=false:=by
 rcases d with ⟨kvs,e⟩ | ⟨kvs,e⟩
 ·obtain ⟨_,hd,vs,_,dd⟩:=dk_rd I.hok e
  refine ⟨dd.typeIs,fun b q=>?_,hd⟩
  cases q
  obtain ⟨ob,_,_,h1,h2,_⟩:=dd
  exact ⟨ob,h1,h2.2.1⟩
 ·obtain ⟨_,hd,xs,_,dd⟩:=dt_rd I.hok e
  refine ⟨dd.typeIs,fun b q=>?_,hd⟩
  cases q
  obtain ⟨ob,_,_,h1,h2,_⟩:=dd
  exact ⟨ob,h1,h2.2.1⟩
section
variable {X : Cx} {pins : List (Addr × Obj)} {σ : St} {H : Hp} {s : Shared} {a : Addr} {y d : V} {u r : Value} {o : Option V} {A : Around} {E : Value → Shared → Prop}
end
def tDPop1 (td ty:TE):TE:=fun σ H Q=>td σ H fun x H1=>∃ a,x=.ref a∧IsD H1 a∧ty σ H1 fun y H2=>∃ kvs k v,H2 a=some (.dK kvs)∧y=kV k∧valV kvs k=some v∧Q v (upd H2 a (.dK (dropK kvs k)))
section
variable {X : Cx} {o e f : Expr} {apos cpos : Pos} {td ty tx : TE}
theorem pe_dpop1 (ho:PE X o td) (he:PE X e ty) (m:M1 X o "pop" apos e cpos):PE X (.Call (.Attribute o "pop" apos) [e] [] cpos) (tDPop1 td ty):=by
 intro pins s σ H Q I h
 refine wpAny_Call_method m.base m.few m.line PySem.F.plainAttrs_dict PySem.F.slot_dict_pop PySem.F.type_dict_pop (thn (ho pins s σ H _ I h) fun u s1 ⟨x,H1,I1,rx,a,ex,d,q1⟩=>?_)
 subst ex
 obtain rfl:u=Value.ref a:=rx
 obtain ⟨t1,t2,_⟩:=isD_at I1 d
 refine ⟨t1,t2,?_⟩
 rw [m.trees]
 refine Calls.callWith_builtin rfl (Calls.evalArgs_plain (Calls.spliced_cons (thn (he pins s1 σ H1 _ I1 q1) fun iv s2 ⟨y,H2,I2,ry,kvs,k,v,ea,ey,l,q2⟩=>Calls.spliced_nil ?_)))
 subst ey
 exact d_pop I2 ea ry l (.inl rfl) fun w' s3 I3 rw'=>⟨v,_,I3,rw',q2⟩
end
section
variable {X : Cx} {pins : List (Addr × Obj)} {σ : St} {H : Hp} {s : Shared} {a : Addr} {kvs : List (Key × V)} {A : Around} {E : Value → Shared → Prop}
end
section
variable {X : Cx} {pins : List (Addr × Obj)} {σ : St} {H : Hp} {s : Shared} {a : Addr} {y : V} {u : Value} {A : Around} {E : Value → Shared → Prop}
end
end L2
set_option maxRecDepth 100000
namespace L2
open PySem PySem.Spec PyProof.Rows
def RawD (h:Heap) (d:Addr) (es:Array DictEntry) (ep:Nat):Prop:=∃ o,h.get? d=some o∧o.ExactDict∧o.data=.dict es ep
theorem RawD.to {h h':Heap} {d:Addr} {es:Array DictEntry} {ep:Nat} (x:RawD h d es ep) (k:∀ o,h.get? d=some o→h'.get? d=some o):RawD h' d es ep:=let ⟨o,a,r⟩:=x; ⟨o,k o a,r⟩
section
variable {prog : Program} {w : World} {A : Around} {E : Value → Shared → Prop} {s : Shared} {it d : Addr} {es : Array DictEntry} {i n ep : Nat}
theorem RawD.ty (x:RawD s.heap d es ep):s.TypeIs (.ref d) "dict":=let ⟨o,a,c,_⟩:=x; ⟨o,a,c.1⟩
theorem raw_iter {Q:Value→Shared→Prop} (hd:(d == sysModules)=false) (x:RawD s.heap d es ep) (hQ:Q (.ref s.heap.objs.size) { s with heap:=s.heap.push { cls:=.type "dict_keyiterator",data:=.fields #[.ref d,.int 0 0,.int es.size 0,.int ep 0] } }):
  wpAny (model prog w) A (pyIter (.ref d)) Q E s:=by
 have T:=x.ty
 obtain ⟨o,a,_,b⟩:=x
 refine wpAny_pyIter_slot T F.slot_dict_iter (wpAny_call_entry F.slot_dict_iter T F.entry_dict_iter ?_ (F.args_dict_iter_1 _))
 unfold Builtin.«dict.__iter__» Builtin.Dict.dictSlotNone Builtin.Dict.showsAll
 refine wpAny_bind (wpAny_bind (wpAny_notOrdered_dict T (wpAny_pure ?_)))
 refine wpAny_bind (show wpAny _ _ (pure d:Sem Addr) _ _ s from wpAny_pure ?_)
 rw [if_neg (by rw [hd]; intro z; cases z)]
 refine wpAny_bind (wpAny_pure (wpAny_bind (wpAny_dictEntries a b (wpAny_bind (wpAny_dictEpoch a b (wpAny_bind (wpAny_newObj_type (wpAny_pure ⟨_,rfl,"dict_keyiterator",_,⟨_,Heap.get?_push_size _ rfl,rfl⟩,F.slot_dict_keyiterator_next.lookup,?_⟩))))))))
 exact hQ
theorem raw_item {Q:Option Value→Shared→Prop} (I:s.heap.IsKeyIter it d i es.size ep) (x:RawD s.heap d es ep) (hi:i < es.size)
  (hQ:∀ h',h'.IsKeyIter it d (i + 1) es.size ep→Heap.SameBut it s.heap h'→Q (some es[i].key) { s with heap:=h' }):wpAny (model prog w) A (pyNext (.ref it)) Q E s:=by
 have T:=I.typeIs
 obtain ⟨u,u1,u2,u3⟩:=id I
 obtain ⟨o,a,_,b⟩:=x
 unfold pyNext
 refine wpAny_bind (wpAny_attempt (wpAny_callSpecial?_slot (name:=Str.ofString "__next__") T F.slot_dict_keyiterator_next (wpAny_call_entry F.slot_dict_keyiterator_next T F.entry_dict_keyiterator_next ?_ (F.args_dict_keyiterator_next_1 _))))
 refine wpAny_bind (wpAny_pure (wpAny_bind (wpAny_bind ?_)))
 refine wpAny_bind (wpAny_typeNameOfWhole_keyiter T (wpAny_pure (wpAny_bind (wpAny_fieldsOf u1 u3 ?_))))
 simp only [show Builtin.Dict_items.ownsTuple "dict_keyiterator"=false by decide,Bool.false_eq_true,if_false]
 show wpAny _ _ (if (Value.ref d == Value.none)=true then _ else _) _ _ s; rw [if_neg (fun z=>nomatch z)]
 refine wpAny_bind (wpAny_pure (wpAny_bind (wpAny_dictEntries a b ?_)))
 rw [if_neg (by simp)]; refine wpAny_bind (wpAny_pure (wpAny_bind (wpAny_dictEpoch a b ?_)))
 rw [if_neg (by simp)]; refine wpAny_pure ?_
 simp only [show ¬ ((i:Int) < 0) by omega,if_false,Int.toNat_natCast,Array.getElem?_eq_getElem hi]
 refine wpAny_bind (wpAny_bind (wpAny_typeNameOfWhole_keyiter T (wpAny_pure (wpAny_bind (wpAny_isOneOf_keyiter T ?_)))))
 show wpAny _ _ (setField (.ref it) 1 (rawInt ((i:Int) + 1)) >>= _) _ _ s; refine wpAny_bind (wpAny_setField u1 u3 (by simp) ?_)
 have J:(s.heap.update it (Obj.mapFields (·.setIfInBounds 1 (rawInt ((i:Int) + 1))))).IsKeyIter it d (i + 1) es.size ep:=⟨_,Heap.get?_update_self _ u1 (Obj.isFreed_of_fields (Obj.data_mapFields u3 _)),(Obj.cls_mapFields ..).trans u2,by rw [Obj.data_mapFields u3]; simp [rawInt]⟩
 refine wpAny_bind (wpAny_holding (wpAny_bind (wpAny_isOneOf_keyiter (s:={ s with heap:=s.heap.update it (Obj.mapFields (·.setIfInBounds 1 (rawInt ((i:Int) + 1)))) }) J.typeIs ?_)))
 show wpAny _ _ (pure es[i].key) _ _ _; exact wpAny_pure (wpAny_pure ⟨_,rfl,wpAny_pure (hQ _ J (Heap.SameBut.update ..))⟩)
theorem raw_end {Q:Option Value→Shared→Prop} (hh:A.handled=none) (I:s.heap.IsKeyIter it d i es.size ep) (x:RawD s.heap d es ep) (hi:es.size ≤ i)
  (hQ:∀ h',Heap.ExtBut it s.heap h'→Q none { s with heap:=h' }):wpAny (model prog w) A (pyNext (.ref it)) Q E s:=by
 have T:=I.typeIs
 obtain ⟨u,u1,u2,u3⟩:=id I
 obtain ⟨o,a,_,b⟩:=x
 unfold pyNext
 refine wpAny_bind (wpAny_attempt (wpAny_callSpecial?_slot (name:=Str.ofString "__next__") T F.slot_dict_keyiterator_next (wpAny_call_entry F.slot_dict_keyiterator_next T F.entry_dict_keyiterator_next ?_ (F.args_dict_keyiterator_next_1 _))))
 refine wpAny_bind (wpAny_pure (wpAny_bind (wpAny_bind ?_)))
 refine wpAny_bind (wpAny_typeNameOfWhole_keyiter T (wpAny_pure (wpAny_bind (wpAny_fieldsOf u1 u3 ?_))))
 simp only [show Builtin.Dict_items.ownsTuple "dict_keyiterator"=false by decide,Bool.false_eq_true,if_false]
 show wpAny _ _ (if (Value.ref d == Value.none)=true then _ else _) _ _ s; rw [if_neg (fun z=>nomatch z)]
 refine wpAny_bind (wpAny_pure (wpAny_bind (wpAny_dictEntries a b ?_)))
 rw [if_neg (by simp)]; refine wpAny_bind (wpAny_pure (wpAny_bind (wpAny_dictEpoch a b ?_)))
 rw [if_neg (by simp)]; refine wpAny_pure ?_
 simp only [show ¬ ((i:Int) < 0) by omega,if_false,Int.toNat_natCast,Array.getElem?_eq_none hi]
 refine wpAny_bind (wpAny_bind (wpAny_typeNameOfWhole_keyiter T (wpAny_pure ?_)))
 show wpAny _ _ (setField (.ref it) 0 .none >>= _) _ _ s; refine wpAny_bind (wpAny_setField u1 u3 (by simp) ?_)
 show wpAny _ _ (newExc (.type "StopIteration") [] >>= _) _ _ _; refine wpAny_bind ?_
 simp only [newExc,newTuple]; refine wpAny_bind (wpAny_newObj_type ?_ (by size_fits))
 refine wpAny_bind (m:=firstArgMember _ _) (wpAny_of_eq (a:=Value.none) (by first | rfl | (simp only [firstArgMember]; rfl)) (wpAny_newObj_type ?_ (by size_fits)))
 simp only [raiseNew]; refine wpAny_bind (wpAny_handled ?_); rw [show A.in1.handled=none from hh]
 refine wpAny_bind (wpAny_pure (wpAny_throw ?_)); refine wpAny_bind (wpAny_isInstance (T:="StopIteration") (b:=true) ⟨_,Heap.get?_push_size _ rfl,rfl⟩ isSubtype_stop (wpAny_pure ?_))
 exact hQ _ (((Heap.SameBut.update ..).extBut.push _).push _)
theorem raw_walks (hh:A.handled=none) (I:Addr) (hne:d ≠ I):Walks prog w A I [I,d] [I] es.size (fun i v=>(es[i]?).map (·.key)=some v) (fun i h=>h.IsKeyIter I d i es.size ep∧RawD h d es ep) where
 sub:=fun b hb=>by simp at hb; simp [hb]
 frame:=fun _ _ _ st hk=>⟨st.1.at fun o e=>hk I (by simp) o e,st.2.to fun o e=>hk d (by simp) o e⟩
 item:=fun i s Q E hi st hQ=>raw_item st.1 st.2 hi fun h' J hs=>hQ _ h' s.toks (by rw [Array.getElem?_eq_getElem hi]; rfl) ⟨J,st.2.to fun o e=>hs.extBut d o hne e⟩ fun b o hb e=>hs.extBut b o (fun h=>hb (by simp [h])) e
 done:=fun s Q E st hQ=>raw_end hh st.1 st.2 (Nat.le_refl _) fun h' he=>hQ h' s.toks fun b o hb e=>he b o (fun h=>hb (by simp [h])) e
 self:=fun _ _ _ _ st hQ=>wpAny_pyIter_keyiter st.1 hQ
theorem raw_src (lo:(d == sysModules)=false):PySem.W.KdlSrc prog w "dict" d d es.size (fun i v=>(es[i]?).map (·.key)=some v) (fun h=>RawD h d es ep) where
 type:=fun _ x=>x.ty
 there:=fun _ ⟨_,a,_⟩=>⟨Heap.lt_size a,Heap.lt_size a⟩
 keep:=fun _ _ x hk=>x.to fun o e=>hk d (.inl rfl) o e
 notList:=by decide
 notTuple:=by decide
 hint:=fun _ _ _ _ x hq=>PySem.W.kdl_hint_dict x.ty hq
 iter:=fun _ s hh x=>⟨_,_,(fun _ _ hq=>raw_iter lo x hq),raw_walks (es:=es) (ep:=ep) hh _ (let ⟨_,a,_⟩:=x; Nat.ne_of_lt (Heap.lt_size a)),⟨⟨_,Heap.get?_push_size _ rfl,rfl,rfl⟩,x.to fun _ e=>Heap.get?_push_of_some _ e⟩⟩
end
end L2
set_option maxRecDepth 100000
namespace L2
open PySem PySem.Spec PyProof.Rows
section
variable {X : Cx}
theorem raw_meets_len {prog:Program} {w:World} {d:Addr} (lo:(d == sysModules)=false):MeetsIn prog w (Builtin.«dict.__len__» ⟨[.ref d],[]⟩) (fun _ R s=>∃ es ep,RawD s.heap d es ep∧R (.ok (.ret (.int es.size s.toks))) { s with toks:=s.toks + 1 }):=
 .of_wp fun A R s ⟨es,ep,⟨o,a,_,b⟩,h⟩=>by
  show wpAny _ _ (dictSize d >>= _) _ _ s; unfold dictSize; refine wpAny_bind (wpAny_bind (wpAny_dictEntries a b (wpAny_pure ?_)))
  show wpAny _ _ (Builtin.Dict.pendingCount d >>= _) _ _ s; refine wpAny_bind (wpAny_pendingCount_other lo (wpAny_ret_mkInt ?_))
  rw [Nat.add_zero]; exact h
theorem raw_len {prog:Program} {w:World} {A:Around} {E:Value→Shared→Prop} {s:Shared} {d:Addr} {es:Array DictEntry} {ep:Nat} {Q:Value→Shared→Prop} (lo:(d == sysModules)=false) (x:RawD s.heap d es ep) (fit:(es.size:Int) < 2 ^ 63)
  (h:Q (.int es.size (s.toks + 1)) { s with toks:=s.toks + 1 + 1 }):wpAny (model prog w) A (call (.builtin "len") [.ref d]) Q E s:=by
 refine Calls.call_function_entry kind_len plain_len entry_len (args_len1 _) ?_
 unfold Builtin.«len»; refine wpAny_bind (m:=oneArg "len" _) (wpAny_pure ?_)
 refine wpAny_bind (m:=callSpecial? (.ref d) (Str.ofString "__len__")) (wpAny_callSpecial?_slot (name:=Str.ofString "__len__") x.ty F.slot_dict_len (call_meetsIn F.slot_dict_len x.ty F.entry_dict_len (F.args_dict_len_1 _) (raw_meets_len lo) ⟨es,ep,x,?_⟩))
 show wpAny _ _ _ _ _ { s with toks:=s.toks + 1 }; refine wpAny_bind (wpAny_holding (wpAny_pure (wpAny_bind (wpAny_letGo ?_))))
 show wpAny _ _ (if ((es.size:Nat):Int) < 0 then _ else _) _ _ _; rw [if_neg (by omega)]
 show wpAny _ _ (if ((es.size:Nat):Int) ≥ 2 ^ 63 then _ else _) _ _ _; rw [if_neg (by omega)]
 exact wpAny_bind (wpAny_mkInt (wpAny_pure ⟨_,rfl,h⟩))
end
end L2
set_option maxRecDepth 100000
namespace L2
open PySem PySem.Spec PyProof.Rows
section
variable {X : Cx} {pins : List (Addr × Obj)} {σ : St} {H : Hp} {s : Shared} {d : Addr} {o : Obj} {kvs : List (Key × V)}
def NF (X:Cx) (d:Addr):Prop:=∀ o u,X.H₀ d ≠ some (.frz o u)
theorem Inv.nf (I:Inv X pins σ H s) (hd:H d=some (.dK kvs)):NF X d:=fun o u z=>by
 have:=I.base.frzs d o u z
 rw [hd] at this; cases this
theorem stay_upd {P:Program} {w:World} {h:Heap} {a:Addr} {o u:HO} {H:Hp} {v:HO} (x:ObjOk P w H h a o) (hd:H d=some u) (h1:∀ b,u ≠ .own b) (h2:∀ xs,u ≠ .tup xs):ObjOk P w (upd H d v) h a o:=
 x.stay (fun _ _ _ q=>q) (fun b q=>by rw [upd_ne (fun z=>by rw [z,hd] at q; exact h1 _ (Option.some.inj q))]; exact q) fun b xs q=>by rw [upd_ne (fun z=>by rw [z,hd] at q; exact h2 _ (Option.some.inj q))]; exact q
theorem Inv.redress {u v:HO} (I:Inv X pins σ H s) (hd:H d=some u) (h1:∀ b,u ≠ .own b) (h2:∀ xs,u ≠ .tup xs) (h3:∀ ps,u ≠ .tbl ps) (h4:∀ o' u',X.H₀ d=some (.frz o' u')→False) (new:ObjOk X.prog X.w (upd H d v) s.heap d v):Inv X pins σ (upd H d v) s where
 ok:=I.ok
 os:=I.os
 bare:=I.bare
 base:=⟨I.base.keep,I.base.slot,fun b ob q n hx=>by rw [upd_ne (fun z=>by have:=I.base.free b ob q n hx; rw [z,hd] at this; cases this)]; exact I.base.free b ob q n hx,I.base.there,
  fun b xs q=>by have:=I.base.tups b xs q; rw [upd_ne (fun z=>by rw [z,hd] at this; exact h2 _ (Option.some.inj this))]; exact this,
  fun b ob w q=>(upd_ne (fun z:b=d=>h4 ob w (show X.H₀ d=some (.frz ob w) by rw [← z]; exact q))).trans (I.base.frzs b ob w q),
  fun b ps q=>by obtain ⟨m,e⟩:=I.base.tbls b ps q; exact ⟨m,by rw [upd_ne (fun z=>by rw [z,hd] at e; exact h3 _ (Option.some.inj e))]; exact e⟩⟩
 loc:=I.loc
 cell:=I.cell
 free:=by rw [upd_ne (fun z=>by have:=I.free; rw [z,hd] at this; cases this)]; exact I.free
 freeC:=fun x c e=>by rw [upd_ne (fun z=>by have:=I.freeC x c e; rw [z,hd] at this; cases this)]; exact I.freeC x c e
 pin:=fun p hp=>by
  obtain ⟨a1,a2,a3⟩:=I.pin p hp
  exact ⟨a1,by rw [upd_ne (fun z=>by rw [z,hd] at a2; cases a2)]; exact a2,a3⟩
 hok:=fun a ob e=>by
  by_cases ha:a=d
  ·subst ha; rw [upd_same] at e; cases e; exact new
  ·rw [upd_ne ha] at e; exact stay_upd (I.hok a ob e) hd h1 h2
 len:=I.len
theorem Inv.freeze (I:Inv X pins σ H s) (hd:H d=some (.dK kvs)) (ho:s.heap.get? d=some o):Inv X pins σ (upd H d (.frz o (.dK kvs))) s:=
 I.redress hd (fun _ z=>nomatch z) (fun _ z=>nomatch z) (fun _ z=>nomatch z) (fun o u z=>I.nf hd o u z) ⟨ho,stay_upd (I.hok d _ hd) hd (fun _ z=>nomatch z) fun _ z=>nomatch z⟩
theorem Inv.thaw (I:Inv X pins σ H s) (hd:H d=some (.frz o (.dK kvs))) (nf:NF X d):Inv X pins σ (upd H d (.dK kvs)) s:=
 I.redress hd (fun _ z=>nomatch z) (fun _ z=>nomatch z) (fun _ z=>nomatch z) (fun o u z=>nf o u z) (stay_upd (I.hok d _ hd).2 hd (fun _ z=>nomatch z) fun _ z=>nomatch z)
end
def Itv (o:Obj) (d:Addr):It:=
 ⟨fun i H=>∃ kvs kv,H d=some (.frz o (.dK kvs))∧kvs[i]?=some kv,fun i H x H'=>H'=H∧∀ kvs,H d=some (.frz o (.dK kvs))→∃ kv,kvs[i]?=some kv∧x=kv.2,fun i H=>∃ kvs,H d=some (.frz o (.dK kvs))∧kvs.length ≤ i⟩
theorem key_rel {P:Program} {w:World} {k:Key} {u:Value} (h:(mixKind P w).is k u=true):RelV (kV k) u:=by
 rcases keyIs_shape (k:=k) (v:=u) h with ⟨i,t,rfl,rfl⟩ | ⟨x,t,rfl,rfl⟩
 ·exact ⟨t,rfl⟩
 ·exact ⟨t,rfl⟩
section
variable {X : Cx} {pins : List (Addr × Obj)} {σ : St} {H : Hp} {s : Shared} {d : Addr} {o : Obj} {es : Array DictEntry} {ep : Nat} {kvs : List (Key × V)}
theorem Inv.frd (I:Inv X pins σ H s) (hd:H d=some (.frz o (.dK kvs))) (ed:o.data=.dict es ep):∃ vs,KV kvs vs∧s.heap.DictAt (mixKind X.prog X.w) d vs ep∧vs.length=es.size:=by
 obtain ⟨ho,z,lo,vs,r,ob,es',ep',e1,c1,c2,c3,c4,c5⟩:=I.hok d _ hd
 rw [ho] at e1; cases e1
 rw [ed] at c2; cases c2
 refine ⟨vs,r,⟨o,es,ho,c1,ed,c3,c4,c5⟩,?_⟩
 have:=c4.length
 rw [← this]; simp
theorem turn_vals {tg:Expr} {P:Program} {w:World} {K:PySem.W.Frag} (it d:Addr) (o:Obj) {es:Array DictEntry} {ep:Nat} (ed:o.data=.dict es ep):Turn P w K tg (Itv o d) [it] it (fun i h=>h.IsValIter it d i es.size ep) where
 mem:=by simp
 obj:=fun i h st b hb=>by
  have e:b=it:=by simpa using hb
  subst e
  obtain ⟨o,e,c,d⟩:=st
  exact ⟨o,e,fun v z=>by rw [d] at z; cases z⟩
 keep:=fun i h h' st k=>st.at fun o e=>k it (by simp) o e
 item:=by
  intro X hP hw hK hc i pins s σ H E I hf st hg
  subst hP hw hK
  obtain ⟨kvs,kv,hd,hx⟩:=hg
  obtain ⟨vs,r,da,hl⟩:=I.frd hd ed
  obtain ⟨f0,f1,f2,f3,f4,f5⟩:=hf it (by simp)
  obtain ⟨q,hq,hr⟩:=Paired.at r hx
  rw [← hl] at st
  refine wpAny_pyNext_values_item st da (k:=q.1) (v:=q.2) hq fun h' st' sb=>?_
  have I1:Inv X pins σ H { s with heap:=h' }:=I.turned (t':=s.toks) (fun b o hb e=>(sb.2 b hb).trans e) f0 f1 f3 f4 f5
  obtain ⟨o',e',c',d'⟩:=id st'
  rw [hl] at st'
  refine ⟨q.2,rfl,go_of (s:={ s with heap:=h' }) e' c' d' (by decide) ⟨kv.2,H,I1,hr.2,⟨rfl,fun kvs' hd'=>?_⟩,st',fun b hb=>(hf b hb).1⟩⟩
  rw [hd] at hd'; cases hd'; exact ⟨kv,hx,rfl⟩
 done:=by
  intro X hP hw hK hc i pins s σ H E I hf st hg
  subst hP hw hK
  obtain ⟨kvs,hd,hx⟩:=hg
  obtain ⟨vs,r,da,hl⟩:=I.frd hd ed
  obtain ⟨f0,f1,f2,f3,f4,f5⟩:=hf it (by simp)
  rw [← hl] at st
  have:=KV.length r
  exact wpAny_pyNext_values_end (I.ok.hd hc) st da (List.getElem?_eq_none (by omega)) fun h' eb=>⟨rfl,I.turned (t':=s.toks) (fun b o hb e=>eb b o hb e) f0 f1 f3 f4 f5⟩
 self:=fun _ _ _ _ _ st h=>wpAny_pyIter_valiter st h
end
section
variable {X : Cx} {tg : Expr}
def iDX (X:Cx) (J:Obj→Addr→It) (tl:TE):TI:=fun σ H R=>∃ Q:VK,tl σ H Q∧∀ x H1,Q x H1→∃ d kvs,x=.ref d∧H1 d=some (.dK kvs)∧∀ o,NF X d→R (J o d) (upd H1 d (.frz o (.dK kvs)))
theorem pi_vals {l:Expr} {tl:TE} {apos cpos:Pos} (hl:PE X l tl)
  (hbase:attributeBase l "values" X.env (eval l X.env)=eval l X.env:=by rfl) (hline:(apos.endLine == cpos.line)=true:=by rfl):PI X tg (.Call (.Attribute l "values" apos) [] [] cpos) (iDX X Itv tl):=by
 intro pins s σ H R I h
 obtain ⟨Q,hq,h⟩:=h
 refine wpAny_Call_method0_late hbase hline (thn (hl pins s σ H _ I hq) fun v s1 ⟨x,H1,I1,r1,q1⟩=>?_)
 obtain ⟨d,kvs,e,hd,q⟩:=h x H1 q1
 subst e
 cases r1
 obtain ⟨z,lo,vs,r,ob,es,ep,ho,c1,c2,c3,c4,c5⟩:=(show ObjOk X.prog X.w H1 s1.heap d (.dK kvs) from I1.hok d _ hd)
 have hsz:vs.length=es.size:=by rw [← c4.length]; simp
 have da:s1.heap.DictAt (mixKind X.prog X.w) d vs ep:=⟨ob,es,ho,c1,c2,c3,c4,c5⟩
 refine ⟨"dict","dict.values",F.plainAttrs_dict,F.slot_dict_values,F.type_dict_values,da.dictOf.typeIs,fun a e2=>?_,Calls.callWith_builtin rfl (PySem.evalArgs_none ?_)⟩
 ·cases e2
  exact ⟨ob,ho,c1.2.1⟩
 refine call_meetsIn F.slot_dict_values da.dictOf.typeIs F.entry_dict_values (F.args_dict_values_1 _) (meets_dict_values (mixKind X.prog X.w) d lo) ⟨⟨vs,da.dictOf⟩,?_⟩
 have I2:=(I1.freeze hd ho).kept (t':=s1.toks) (h':=s1.heap.push { cls:=.type "dict_values",data:=.fields #[.ref d] }) fun b o e=>Heap.get?_push_of_some _ e
 show wpAny _ _ _ _ _ { s1 with heap:=s1.heap.push { cls:=.type "dict_values",data:=.fields #[.ref d] } }
 refine wpAny_pyIter_values (s:={ s1 with heap:=s1.heap.push { cls:=.type "dict_values",data:=.fields #[.ref d] } }) ⟨_,Heap.get?_push_size _ rfl,rfl,rfl⟩ (da.push _) ?_
 rw [hsz]
 refine ⟨_,[(s1.heap.push { cls:=.type "dict_values",data:=.fields #[.ref d] }).objs.size],_,_,_,rfl,I2.kept (t':=s1.toks) fun b o e=>Heap.get?_push_of_some _ e,turn_vals _ d ob c2,⟨_,Heap.get?_push_size _ rfl,rfl,rfl⟩,fun b hb=>?_,q ob (I1.nf hd)⟩
 have e:b=(s1.heap.push { cls:=.type "dict_values",data:=.fields #[.ref d] }).objs.size:=by simpa using hb
 subst e
 exact I2.fpOk (Nat.le_refl _) (I2.hok.fresh (Nat.le_refl _))
def endsT (N:Addr→Prop) (D:Ends):Ends where
 nx:=fun σ H=>∃ d o kvs,N d∧H d=some (.frz o (.dK kvs))∧D.nx σ (upd H d (.dK kvs))
 rt:=fun v H=>∃ d o kvs,N d∧H d=some (.frz o (.dK kvs))∧D.rt v (upd H d (.dK kvs))
 bk:=fun σ H=>∃ d o kvs,N d∧H d=some (.frz o (.dK kvs))∧D.bk σ (upd H d (.dK kvs))
 ct:=fun σ H=>∃ d o kvs,N d∧H d=some (.frz o (.dK kvs))∧D.ct σ (upd H d (.dK kvs))
def tForD (J:Obj→Addr→It) (tl:TE) (g:TG) (tb:TS):TS:=fun D σ H=>tl σ H fun x H1=>∃ d kvs,x=.ref d∧H1 d=some (.dK kvs)∧∀ (o:Obj) (N:Addr→Prop),N d→
 ∃ W:Nat→Nat→St→Hp→Prop,(∃ m,W 0 m σ (upd H1 d (.frz o (.dK kvs))))∧∀ i m σ H,W i m σ H→
  ((J o d).stop i H∧(endsT N D).nx σ H) ∨ ((J o d).go i H∧∃ M:St→Hp→Prop,(∀ σ' H',M σ' H'→∃ m',m' < m∧W (i + 1) m' σ' H')∧∀ x H',(J o d).yld i H x H'→g x σ H' fun σ2 H2=>tb { endsT N D with nx:=M,ct:=M,bk:=(endsT N D).nx } σ2 H2)
theorem SP.thaw {pins:List (Addr × Obj)} {D:Ends} {f:Flow} {s:Shared} (h:SP X pins (endsT (NF X) D) f s):SP X pins D f s:=by
 cases f with
 | next=>obtain ⟨σ,H,I,d,o,kvs,nf,e,q⟩:=h; exact ⟨σ,_,I.thaw e nf,q⟩
 | brk=>obtain ⟨σ,H,I,d,o,kvs,nf,e,q⟩:=h; exact ⟨σ,_,I.thaw e nf,q⟩
 | cont=>obtain ⟨σ,H,I,d,o,kvs,nf,e,q⟩:=h; exact ⟨σ,_,I.thaw e nf,q⟩
 | ret v=>obtain ⟨x,σ,H,I,r,d,o,kvs,nf,e,q⟩:=h; exact ⟨x,σ,_,I.thaw e nf,r,q⟩
theorem ps_forD {J:Obj→Addr→It} {iter:Expr} {body:List Stmt} {tl:TE} {g:TG} {tb:TS} {pos:Pos} (hp:PassesOwn (model X.prog X.w) X.A X.env X.xe) (hc:X.calm=true) (hi:PI X tg iter (iDX X J tl)) (hg:PG X tg g) (hb:PSs X body tb)
  (hs:∀ x,foldedSetIterable iter X.env x=pure x:=by intro _; rfl):PS X (.For tg iter body [] pos) (tForD J tl g tb):=by
 intro pins s σ H D I h
 exact thn (ps_for hp hc hi hg hb hs pins s σ H (endsT (NF X) D) I ⟨_,h,fun x H1 ⟨d,kvs,e,hd,r⟩=>⟨d,kvs,e,hd,fun o nf=>r o _ nf⟩⟩) fun f s' q=>SP.thaw q
variable {elt iter : Expr} {ifs : List Expr} {scope : Scope} {pos : Pos} {nT : Nat} {js : List Nat} {N' : List Str} {g : TG} {tt : TT} {te : TE}
def tCompD (J:Obj→Addr→It) (tl:TE) (nT:Nat) (js:List Nat) (g:TG) (tt:TT) (te:TE):TE:=fun σ H Q=>tl σ H fun x H1=>∃ d kvs,x=.ref d∧H1 d=some (.dK kvs)∧∀ (o:Obj) (N:Addr→Prop),N d→
 compRd nT js g tt te σ (fun l H'=>∃ d o kvs,N d∧H' d=some (.frz o (.dK kvs))∧Q (.ref l) (upd H' d (.dK kvs))) (J o d) (upd H1 d (.frz o (.dK kvs)))
theorem pe_compD {J:Obj→Addr→It} {tl:TE} (hc:X.calm=true) (S:CompScope X scope nT js N') (hi:PI X tg iter (iDX X J tl))
  (hg:∀ cells C s H fp,PG (cxComp X scope N' cells C s H fp) tg g) (ht:∀ cells C s H fp,PIfs (cxComp X scope N' cells C s H fp) ifs tt) (he:∀ cells C s H fp,PE (cxComp X scope N' cells C s H fp) elt te)
  (hs:∀ x,foldedSetIterable iter X.env x=pure x:=by intro _; rfl):PE X (.ListComp elt [⟨tg,iter,ifs,0⟩] scope pos) (tCompD J tl nT js g tt te):=by
 intro pins s σ H Q I h
 refine thn (pe_comp hc S hi hg ht he hs pins s σ H (fun v H'=>∃ d o kvs,NF X d∧H' d=some (.frz o (.dK kvs))∧Q v (upd H' d (.dK kvs))) I ⟨_,h,fun x H1 ⟨d,kvs,e,hd,r⟩=>⟨d,kvs,e,hd,fun o nf=>r o _ nf⟩⟩) fun u s' ⟨v,H',I',r',d,o,kvs,nf,e,q⟩=>⟨v,_,I'.thaw e nf,r',q⟩
end
end L2
set_option maxRecDepth 100000
namespace L2
open PySem PySem.Spec PyProof.Rows
theorem vals_at {xs:List V}:∀ {us:List Value},xs.length=us.length→(∀ (j:Nat) (x:V) (u:Value),xs[j]?=some x→us[j]?=some u→RelV x u)→Vals xs us:=by
 induction xs with
 | nil=>intro us hl h; cases us with
  | nil=>exact .nil
  | cons u us=>cases hl
 | cons x xs ih=>intro us hl h; cases us with
  | nil=>cases hl
  | cons u us=>exact .cons (h 0 x u rfl rfl) (ih (by simpa using hl) fun j y v hy hv=>h (j + 1) y v (by simpa using hy) (by simpa using hv))
def sgn (x:Str) (i:Nat):Str:=⟨#[x.cps.getD i 0]⟩
def Its (x:Str):It:=⟨fun i _=>i < x.cps.size,fun i H v H'=>H'=H∧v=.str (sgn x i),fun i _=>i=x.cps.size⟩
theorem turn_str {tg:Expr} {P:Program} {w:World} {K:PySem.W.Frag} (it:Addr) (x:Str) (t:Tok) (ty:String) (hty:["enumerate","zip","dict_itemiterator","dict_reverseitemiterator","odict_iterator","itertools.zip_longest","itertools.pairwise"].contains ty=false)
  (W:∀ A:Around,A.handled=none→Walks P w A it [it] [it] x.cps.size (SignAt x) (fun i h=>h.IsStrIter it ty x t i))
  (hself:∀ (A:Around) (i:Nat) (s:Shared) (Q:Value→Shared→Prop) (E:Value→Shared→Prop),s.heap.IsStrIter it ty x t i→Q (.ref it) s→wpAny (model P w) A (pyIter (.ref it)) Q E s):Turn P w K tg (Its x) [it] it (fun i h=>h.IsStrIter it ty x t i) where
 mem:=by simp
 obj:=fun i h st b hb=>by
  have e:b=it:=by simpa using hb
  subst e
  obtain ⟨o,e,c,d⟩:=st
  exact ⟨o,e,fun v z=>by rw [d] at z; cases z⟩
 keep:=fun i h h' st k=>by
  obtain ⟨o,e,r⟩:=st
  exact ⟨o,k it (by simp) o e,r⟩
 item:=by
  intro X hP hw hK hc i pins s σ H E I hf st hg
  subst hP hw hK
  obtain ⟨f0,f1,f2,f3,f4,f5⟩:=hf it (by simp)
  refine (W X.A (I.ok.hd hc)).item i s _ _ hg st fun v h' tk hv st' kk=>?_
  obtain ⟨c,u,hcx,rfl⟩:=hv
  have I1:Inv X pins σ H { s with heap:=h',toks:=tk }:=I.turned (fun b o hb e=>kk b o (by simpa using hb) e) f0 f1 f3 f4 f5
  obtain ⟨o',e',c',d'⟩:=id st'
  refine ⟨_,rfl,go_of (s:={ s with heap:=h',toks:=tk }) e' c' d' hty ⟨.str (sgn x i),H,I1,⟨u,?_⟩,⟨rfl,rfl⟩,st',fun b hb=>(hf b hb).1⟩⟩
  unfold sgn
  rw [Array.getD_eq_getD_getElem?,hcx]
  rfl
 done:=by
  intro X hP hw hK hc i pins s σ H E I hf st hg
  subst hP hw hK
  obtain ⟨f0,f1,f2,f3,f4,f5⟩:=hf it (by simp)
  have hi:i=x.cps.size:=hg
  subst hi
  exact (W X.A (I.ok.hd hc)).done s _ _ st fun h' tk kk=>⟨rfl,I.turned (t':=tk) (fun b o hb e=>kk b o (by simpa using hb) e) f0 f1 f3 f4 f5⟩
 self:=fun A i s Q E st h=>hself A i s Q E st h
section
variable {X : Cx} {tg : Expr}
def iStr (tl:TE):TI:=fun σ H R=>tl σ H fun v H1=>∃ x,v=.str x∧R (Its x) H1
theorem pi_str {l:Expr} {tl:TE} (hl:PE X l tl):PI X tg l (iStr tl):=by
 intro pins s σ H R I h
 refine thn (hl pins s σ H _ I h) fun v s1 ⟨z,H1,I1,r1,q1⟩=>?_
 obtain ⟨x,rfl,q⟩:=q1
 obtain ⟨t,rfl⟩:=r1
 have fp:∀ (b:Addr),b ∈ [s1.heap.objs.size]→FpOk X pins H1 b:=fun b hb=>by
  have e:b=s1.heap.objs.size:=by simpa using hb
  subst e
  exact I1.fpOk (Nat.le_refl _) (I1.hok.fresh (Nat.le_refl _))
 cases ha:x.cps.all (· < 128)
 ·refine wpAny_pyIter_wide ha ?_
  exact ⟨s1.heap.objs.size,[s1.heap.objs.size],_,_,H1,rfl,I1.kept (t':=s1.toks) fun b o e=>Heap.get?_push_of_some _ e,turn_str _ x t "str_iterator" (by decide) (fun A' hA=>Walks.strWide hA _ x t) (fun A i s Q E st h=>wpAny_pyIter_striter_wide st h),⟨_,Heap.get?_push_size _ rfl,rfl,rfl⟩,fp,q⟩
 ·refine wpAny_pyIter_ascii ha ?_
  exact ⟨s1.heap.objs.size,[s1.heap.objs.size],_,_,H1,rfl,I1.kept (t':=s1.toks) fun b o e=>Heap.get?_push_of_some _ e,turn_str _ x t "str_ascii_iterator" (by decide) (fun A' hA=>Walks.strAscii hA _ x t) (fun A i s Q E st h=>wpAny_pyIter_striter_ascii st h),⟨_,Heap.get?_push_size _ rfl,rfl,rfl⟩,fp,q⟩
theorem all_range {bs:List Bool}:(List.range bs.length).all (fun i=>bs.getD i true)=bs.all id:=by
 rw [Bool.eq_iff_iff]
 simp only [List.all_eq_true,List.mem_range]
 constructor
 ·intro h b hb
  obtain ⟨i,hi,rfl⟩:=List.getElem_of_mem hb
  have:=h i hi
  rwa [List.getD_eq_getElem?_getD,List.getElem?_eq_getElem hi] at this
 ·intro h i hi
  rw [List.getD_eq_getElem?_getD,List.getElem?_eq_getElem hi]
  exact h _ (List.getElem_mem hi)
theorem call_allB (K:PySem.W.Frag) (hc:X.calm=true) (hK:X.K=K:=by rfl):CallR X (.builtin "all") (fun xs H Q=>∃ (p:Addr) (bs:List Bool),xs=[.ref p]∧SqL K H p (bs.map V.bl)∧Q (.bl (bs.all id)) H):=by
 subst hK
 intro pins s σ H xs us Q I r h
 obtain ⟨p,bs,rfl,hq,q⟩:=h
 obtain ⟨u,rfl,r1⟩:=vals1 r
 cases r1
 obtain ⟨its,rv,pl,hz⟩:=I.list hq
 have hlen:its.length=bs.length:=by have:=rv.length; rw [List.length_map] at this; omega
 have hpn:p ≠ s.heap.objs.size:=by
  obtain ⟨_,_,e,_⟩:=pl
  exact Nat.ne_of_lt (Heap.lt_size e)
 refine call_all_walk ?_
 refine wpAny_pyIter_list pl.isList ?_
 refine ⟨s.heap.objs.size,[s.heap.objs.size,p],[s.heap.objs.size],its.toArray.size,_,_,fun i=>bs.getD i true,rfl,Walks.list (A:=X.A.in1) (I.ok.hd hc) _ p hpn its.toArray,⟨⟨_,Heap.get?_push_size _ rfl,rfl,rfl⟩,pl.isList.push _⟩,fun i v s' Q' E' hv hQ=>?_,fun h' tk hk=>?_⟩
 ·have hv:its[i]?=some v:=by simpa using hv
  have hi:i < bs.length:=by rw [← hlen]; exact (List.getElem?_eq_some_iff.mp hv).1
  have hb:(bs.map V.bl)[i]?=some (V.bl bs[i]):=by rw [List.getElem?_map,List.getElem?_eq_getElem hi]; rfl
  obtain ⟨w1,e1,r1⟩:=rv.get hb
  rw [hv] at e1; cases e1
  obtain rfl:v=Value.bool bs[i]:=r1
  dsimp only at hQ
  rw [List.getD_eq_getElem?_getD,List.getElem?_eq_getElem hi] at hQ
  exact wpAny_truthy_bool hQ
 ·have e:its.toArray.size=bs.length:=by simp [hlen]
  rw [e,all_range]
  refine ⟨.bl (bs.all id),H,I.kept (t':=tk) fun b o e=>hk b o (fun z=>?_) (Heap.get?_push_of_some _ e),rfl,q⟩
  have z':b=s.heap.objs.size:=by simpa using z
  exact absurd (Heap.lt_size e) (by rw [z']; exact Nat.lt_irrefl _)
theorem call_list_dK (hc:X.calm=true):CallR X (.type "list") (fun xs H Q=>∃ d kvs,xs=[.ref d]∧H d=some (.dK kvs)∧NewQ H (.lst (kvs.map fun kv=>kV kv.1)) Q):=by
 intro pins s σ H xs us Q I r h
 obtain ⟨d,kvs,rfl,hd,q⟩:=h
 obtain ⟨u,rfl,rx⟩:=vals1 r
 cases rx
 obtain ⟨z,lo,vs,rel,o,es,ep,ho,hx,hdat,hk,hp,hnd⟩:=(show ObjOk X.prog X.w H s.heap d (.dK kvs) from I.hok d _ hd)
 have hl:es.size=vs.length:=by rw [← hp.length]; simp
 have hkl:=KV.length rel
 refine PySem.W.kdl_call (raw_src lo) (I.ok.hd hc) ⟨o,ho,hx,hdat⟩ (by rw [hl,← hkl]; exact z) fun h' tk acc c keep hnew hacc=>?_
 have hval:Vals (kvs.map fun kv=>kV kv.1) acc.toList:=by
  refine vals_at (by have h1:=hacc.1; rw [← Array.length_toList] at h1; rw [List.length_map,h1,hl,hkl]) fun j x u' hx hu=>?_
  rw [List.getElem?_map] at hx
  obtain ⟨kv,ekv,rfl⟩:=Option.map_eq_some_iff.mp hx
  obtain ⟨q',hq',hr'⟩:=Paired.at rel ekv
  have hj:j < es.size:=by rw [hl]; exact (List.getElem?_eq_some_iff.mp hq').1
  have h1:(es[j]?).map (·.key)=some u':=hacc.2 j u' (by rw [← Array.getElem?_toList]; exact hu)
  rw [Array.getElem?_eq_getElem hj] at h1
  have h2:=(Pairs.get? hp (e:=es[j]) (k:=q'.1) (v:=q'.2) (by rw [Array.getElem?_toList,Array.getElem?_eq_getElem hj]) hq').1
  have:es[j].key=u':=Option.some.inj h1
  rw [← this,hr'.1]
  exact key_rel h2
 refine ⟨.ref s.heap.objs.size,_,I.laid (t':=tk) keep (Nat.le_refl _) (show ObjOk X.prog X.w _ h' _ (.lst (kvs.map fun kv=>kV kv.1)) from ⟨by rw [List.length_map]; exact z,acc.toList,c,hval,?_⟩),rfl,q.at (I.hok.fresh (Nat.le_refl _))⟩
 simpa using hnew
theorem call_len_dK:CallR X (.builtin "len") (fun xs H Q=>∃ d kvs,xs=[.ref d]∧H d=some (.dK kvs)∧Q (.int kvs.length) H):=by
 intro pins s σ H xs us Q I r h
 obtain ⟨d,kvs,rfl,hd,q⟩:=h
 obtain ⟨u,rfl,rx⟩:=vals1 r
 cases rx
 obtain ⟨z,lo,vs,rel,o,es,ep,ho,hx,hdat,hk,hp,hnd⟩:=(show ObjOk X.prog X.w H s.heap d (.dK kvs) from I.hok d _ hd)
 have hl:es.size=kvs.length:=by rw [KV.length rel,← hp.length]; simp
 refine raw_len lo ⟨o,ho,hx,hdat⟩ (by rw [hl]; have:kvs.length ≤ 2 ^ 24:=z; omega) ?_
 rw [hl]
 exact ⟨.int kvs.length,H,I.tok _,⟨_,rfl⟩,q⟩
variable {k : Nat} {C : Addr} {ps : List Str} {sp : Sp} {x m : Str} {p pos apos : Pos} {o : Expr} {ta : TE}
theorem pe_meth0D {pl:Sem Bool} (he:PE X o ta) (D:Dm X.prog X.w X.K X.mg X.base k C m ps sp) (hr:Room k X.A)
  (ht:eval (.Call (.Attribute o m apos) [] [] pos) X.env=(do
   let ov ← eval o X.env
   standAt apos.atName
   let (f,first) ← holding [ov] (getMethod ov m pl)
   callWith pos f first (backTo pos (starEach [] X.env)) (backToKw pos (keywordEach [] X.env))):=by rfl):
  PE X (.Call (.Attribute o m apos) [] [] pos) (tMeth C m sp [] E0 ta tNil):=by
 obtain ⟨f,fd,cl,hm,b,F⟩:=D
 exact pe_meth0 he cl hm F hr b .nil pass0 ht
theorem pe_make0D (D:Dk X.prog X.w X.K X.mg X.base k x C ps sp) (hr:Room (k + 1) X.A) (hg:Gl X x) (hdb:(x == ("__debug__":Str))=false:=by decide):
  PE X (.Call (.Name x p) [] [] pos) (tMake C sp [] E0 tNil):=by
 obtain ⟨f,fd,hm,M,b,F⟩:=D
 exact pe_make0 M F hr hg hm b .nil pass0 hdb
def tMethC (Cs:Addr→Prop) (m:Str) (sp:Addr→Sp) (ta:TE):TE:=fun σ H Q=>ta σ H fun x H1=>∃ a C dx fs,x=.ref a∧Cs C∧H1 a=some (.ins C dx fs)∧fs.lookup m=none∧sp C [x] H1 Q E0
theorem pe_meth0C {pl:Sem Bool} {Cs:Addr→Prop} {sp:Addr→Sp} (he:PE X o ta) (D:∀ C,Cs C→Dm X.prog X.w X.K X.mg X.base k C m ps (sp C)) (hr:Room k X.A)
  (ht:eval (.Call (.Attribute o m apos) [] [] pos) X.env=(do
   let ov ← eval o X.env
   standAt apos.atName
   let (f,first) ← holding [ov] (getMethod ov m pl)
   callWith pos f first (backTo pos (starEach [] X.env)) (backToKw pos (keywordEach [] X.env))):=by rfl):
  PE X (.Call (.Attribute o m apos) [] [] pos) (tMethC Cs m sp ta):=by
 intro pins s σ H Q I h
 refine PySem.W.methodCall_KW (pl:=pl) (thn (he pins s σ H _ I h) fun u s1 ⟨x,H1,I1,rx,a,C,dx,fs,ex,hC,ea,l,q⟩=>?_) ht
 subst ex
 obtain rfl:u=Value.ref a:=rx
 obtain ⟨f,fd,cl,hm,b,F⟩:=D C hC
 refine getmeth_ok I1 ea cl hm l ?_
 exact PySem.W.callWith_K0 (first:=[.ref a]) I1.kIn hm.kp (run_fn (us:=[.ref a]) (vs:=[.ref a]) (dvs:=[]) F hr b .nil pass0 I1 (.cons rfl .nil) q)
end
end L2
set_option maxRecDepth 100000
namespace L2
open PySem PySem.Spec PyProof.Rows
def Itp (pr:Key × V→V) (o:Obj) (d:Addr):It:=
 ⟨fun i H=>∃ kvs kv,H d=some (.frz o (.dK kvs))∧kvs[i]?=some kv,fun i H x H'=>H'=H∧∀ kvs,H d=some (.frz o (.dK kvs))→∃ kv,kvs[i]?=some kv∧x=pr kv,fun i H=>∃ kvs,H d=some (.frz o (.dK kvs))∧kvs.length ≤ i⟩
theorem itv_eq:Itv=Itp (·.2):=rfl
theorem same_thaw {H H':Hp} {d:Addr} {o:Obj} {kvs:List (Key × V)} (hd:H d=some (.dK kvs)) (e:Same (upd H d (.frz o (.dK kvs))) H'):Same H (upd H' d (.dK kvs)):=fun b u hb=>by
 by_cases z:b=d
 ·subst z; rw [hd] at hb; cases hb; exact upd_same
 ·rw [upd_ne z]
  exact e b u (by rw [upd_ne z]; exact hb)
theorem thaw_same {H:Hp} {d:Addr} {o:HO} {kvs:List (Key × V)} (hd:H d=some (.dK kvs)):upd (upd H d o) d (.dK kvs)=H:=by
 funext b
 unfold upd
 by_cases z:b=d
 ·subst z; rw [if_pos rfl,hd]
 ·rw [if_neg z,if_neg z]
section
variable {pr : Key × V → V} {o : Obj} {d : Addr} {kvs : List (Key × V)}
theorem for_dict {g:TG} {tb:TS} {D:Ends} {σ:St} {H:Hp} (Pv:Nat→St→Hp→Prop) (h0:Pv 0 σ H) (hl:∀ i σ H,i ≤ kvs.length→Pv i σ H→H d=some (.frz o (.dK kvs)))
  (hs:∀ (i:Nat) (kv:Key × V) σ H,kvs[i]?=some kv→Pv i σ H→g (pr kv) σ H fun σ2 H2=>tb { D with nx:=Pv (i + 1),ct:=Pv (i + 1),bk:=D.nx } σ2 H2) (hd:∀ σ H,Pv kvs.length σ H→D.nx σ H):
  ∃ W:Nat→Nat→St→Hp→Prop,(∃ m,W 0 m σ H)∧∀ i m σ H,W i m σ H→
   ((Itp pr o d).stop i H∧D.nx σ H) ∨ ((Itp pr o d).go i H∧∃ N:St→Hp→Prop,(∀ σ' H',N σ' H'→∃ m',m' < m∧W (i + 1) m' σ' H')∧∀ x H',(Itp pr o d).yld i H x H'→g x σ H' fun σ2 H2=>tb { D with nx:=N,ct:=N,bk:=D.nx } σ2 H2):=by
 refine ⟨fun i m σ H=>m=kvs.length - i∧i ≤ kvs.length∧Pv i σ H,⟨kvs.length,by simp,Nat.zero_le _,h0⟩,?_⟩
 rintro i m σ H ⟨rfl,hi,p⟩
 have q:=hl i σ H hi p
 by_cases hlt:i < kvs.length
 ·refine .inr ⟨⟨kvs,kvs[i],q,by simp [hlt]⟩,Pv (i + 1),fun σ' H' p'=>⟨kvs.length - (i + 1),by omega,rfl,hlt,p'⟩,fun x H' y=>?_⟩
  obtain ⟨rfl,y⟩:=y
  obtain ⟨kv,e1,rfl⟩:=y kvs q
  exact hs i kv σ H' e1 p
 ·have e:i=kvs.length:=by omega
  subst e
  exact .inl ⟨⟨kvs,q,Nat.le_refl _⟩,hd σ H p⟩
variable {js : List Nat} {tt : TT} {te : TE} {σ : St} {F : Addr → Hp → Prop} {H : Hp}
theorem filter_succ {α:Type} (keep:Nat→Bool) (g:Nat→α) (i:Nat):((List.range (i + 1)).filter keep).map g=((List.range i).filter keep).map g ++ (if keep i=true then [g i] else []):=by
 rw [List.range_succ,List.filter_append,List.map_append]
 by_cases c:keep i=true
 ·simp [c]
 ·simp [c]
theorem filter_short {α:Type} (keep:Nat→Bool) (g:Nat→α) (i:Nat):(((List.range i).filter keep).map g).length ≤ i:=by
 rw [List.length_map]
 exact Nat.le_trans (List.length_filter_le _ _) (by rw [List.length_range]; exact Nat.le_refl _)
theorem compG_dict (keep:Nat→Bool) (g:Nat→V) (hfr:H d=some (.frz o (.dK kvs))) (hz:kvs.length ≤ 1000)
  (hs:∀ (i:Nat) (kv:Key × V) H2,kvs[i]?=some kv→Same H H2→tt (some (pr kv) :: caps σ js) H2 fun b H4=>if b=true then te (some (pr kv) :: caps σ js) H4 fun v H5=>keep i=true∧v=g i∧Same H2 H5 else keep i=false∧Same H2 H4)
  (hd:∀ l H',H l=none→Same H H'→H' l=some (.lst (((List.range kvs.length).filter keep).map g))→F l H'):compRd 1 js (gName 0) tt te σ F (Itp pr o d) H:=by
 intro l hl0
 refine ⟨fun i m σ' H2=>m=kvs.length - i∧i ≤ kvs.length∧(∃ o,σ'=o :: caps σ js)∧Same H H2∧H2 l=some (.lst (((List.range i).filter keep).map g)),⟨kvs.length,by simp,Nat.zero_le _,⟨none,rfl⟩,same_upd (Same.refl _) hl0,upd_same⟩,?_⟩
 rintro i m σ' H2 ⟨rfl,hi,⟨o',rfl⟩,e,hl⟩
 have q:=e _ _ hfr
 by_cases hlt:i < kvs.length
 ·refine .inr ⟨⟨kvs,kvs[i],q,by simp [hlt]⟩,fun x H3 y=>?_⟩
  obtain ⟨rfl,y⟩:=y
  obtain ⟨kv,e1,rfl⟩:=y kvs q
  refine ⟨fun H4=>keep i=false∧Same H3 H4,fun v H5=>keep i=true∧v=g i∧Same H3 H5,fun H4 ⟨k4,e4⟩=>⟨_,?_,rfl,hlt,⟨_,rfl⟩,e.trans e4,?_⟩,fun v H5 ⟨k5,ev,e5⟩=>?_,hs i kv H3 e1 e⟩
  ·omega
  ·rw [filter_succ,k4]; simpa using e4 _ _ hl
  ·subst ev
   refine ⟨_,e5 _ _ hl,Nat.lt_of_le_of_lt (filter_short keep g i) (Nat.lt_of_lt_of_le hlt (Nat.le_trans hz (by decide))),_,?_,rfl,hlt,⟨_,rfl⟩,same_new (e.trans e5) hl0,?_⟩
   ·omega
   ·rw [upd_same,filter_succ,k5]; rfl
 ·have ei:i=kvs.length:=by omega
  subst ei
  exact .inl ⟨⟨kvs,q,Nat.le_refl _⟩,hd l H2 hl0 e hl⟩
theorem compG_list {K:PySem.W.Frag} {a:Addr} {xs:List V} (keep:Nat→Bool) (g:Nat→V) (ha:H a=some (.lst xs)) (hz:xs.length ≤ 1000)
  (hs:∀ (i:Nat) (x:V) H2,xs[i]?=some x→Same H H2→tt (some x :: caps σ js) H2 fun b H4=>if b=true then te (some x :: caps σ js) H4 fun v H5=>keep i=true∧v=g i∧Same H2 H5 else keep i=false∧Same H2 H4)
  (hd:∀ l H',H l=none→Same H H'→H' l=some (.lst (((List.range xs.length).filter keep).map g))→F l H'):compRd 1 js (gName 0) tt te σ F (Itl K a) H:=by
 intro l hl0
 refine ⟨fun i m σ' H2=>m=xs.length - i∧i ≤ xs.length∧(∃ o,σ'=o :: caps σ js)∧Same H H2∧H2 l=some (.lst (((List.range i).filter keep).map g)),⟨xs.length,by simp,Nat.zero_le _,⟨none,rfl⟩,same_upd (Same.refl _) hl0,upd_same⟩,?_⟩
 rintro i m σ' H2 ⟨rfl,hi,⟨o',rfl⟩,e,hl⟩
 have q:SqL K H2 a xs:=SqL.of (e _ _ ha)
 by_cases hlt:i < xs.length
 ·refine .inr ⟨⟨xs,xs[i],q,by simp [hlt]⟩,fun x H3 y=>?_⟩
  obtain ⟨rfl,y⟩:=y
  refine ⟨fun H4=>keep i=false∧Same H3 H4,fun v H5=>keep i=true∧v=g i∧Same H3 H5,fun H4 ⟨k4,e4⟩=>⟨_,?_,rfl,hlt,⟨_,rfl⟩,e.trans e4,?_⟩,fun v H5 ⟨k5,ev,e5⟩=>?_,hs i x H3 (y xs q) e⟩
  ·omega
  ·rw [filter_succ,k4]; simpa using e4 _ _ hl
  ·subst ev
   refine ⟨_,e5 _ _ hl,Nat.lt_of_le_of_lt (filter_short keep g i) (Nat.lt_of_lt_of_le hlt (Nat.le_trans hz (by decide))),_,?_,rfl,hlt,⟨_,rfl⟩,same_new (e.trans e5) hl0,?_⟩
   ·omega
   ·rw [upd_same,filter_succ,k5]; rfl
 ·have ei:i=xs.length:=by omega
  subst ei
  exact .inl ⟨⟨xs,q,Nat.le_refl _⟩,hd l H2 hl0 e hl⟩
theorem range_filter_map {α β:Type} (xs:List α) (keep:α→Bool) (g:α→β) (kp:Nat→Bool) (gi:Nat→β) (h:∀ (i:Nat) (x:α),xs[i]?=some x→kp i=keep x∧gi i=g x):
  ((List.range xs.length).filter kp).map gi=(xs.filter keep).map g:=by
 have:∀ n,n ≤ xs.length→((List.range n).filter kp).map gi=((xs.take n).filter keep).map g:=by
  intro n
  induction n with
  | zero=>intro _; rfl
  | succ n ih=>
   intro hn
   have hx:xs[n]?=some xs[n]:=List.getElem?_eq_getElem (by omega)
   obtain ⟨h1,h2⟩:=h n _ hx
   rw [filter_succ,ih (by omega),List.take_add_one,hx,List.filter_append,List.map_append,h1]
   congr 1
   by_cases c:keep xs[n]=true
   ·simp [c,h2]
   ·simp [c]
 rw [this _ (Nat.le_refl _),List.take_of_length_le (Nat.le_refl _)]
end
end L2
set_option maxRecDepth 100000
namespace L2
open PySem PySem.Spec PyProof.Rows
abbrev G4 (K:PySem.W.Frag):TG:=gTup K 4 (gCons (gName 0) (gCons (gName 1) (gCons (gName 2) (gCons (gName 3) gNil))))
section
variable {K : PySem.W.Frag} {js : List Nat} {tt : TT} {te : TE} {σ : St} {F : Addr → Hp → Prop} {H : Hp}
theorem compG4_list {a:Addr} {xs:List V} (keep:Nat→Bool) (g:Nat→V) (ha:H a=some (.lst xs)) (hz:xs.length ≤ 1000)
  (hf:∀ (i:Nat) (x:V),xs[i]?=some x→∃ p x1 x2 x3 x4,x=.ref p∧H p=some (.tup [x1,x2,x3,x4]))
  (hs:∀ (i:Nat) (p:Addr) (x1 x2 x3 x4:V) H2,xs[i]?=some (.ref p)→H p=some (.tup [x1,x2,x3,x4])→Same H H2→tt (some x1 :: some x2 :: some x3 :: some x4 :: caps σ js) H2 fun b H4=>
   if b=true then te (some x1 :: some x2 :: some x3 :: some x4 :: caps σ js) H4 fun v H5=>keep i=true∧v=g i∧Same H2 H5 else keep i=false∧Same H2 H4)
  (hd:∀ l H',H l=none→Same H H'→H' l=some (.lst (((List.range xs.length).filter keep).map g))→F l H'):compRd 4 js (G4 K) tt te σ F (Itl K a) H:=by
 intro l hl0
 refine ⟨fun i m σ' H2=>m=xs.length - i∧i ≤ xs.length∧(∃ o1 o2 o3 o4,σ'=o1 :: o2 :: o3 :: o4 :: caps σ js)∧Same H H2∧H2 l=some (.lst (((List.range i).filter keep).map g)),⟨xs.length,by simp,Nat.zero_le _,⟨none,none,none,none,rfl⟩,same_upd (Same.refl _) hl0,upd_same⟩,?_⟩
 rintro i m σ' H2 ⟨rfl,hi,⟨o1,o2,o3,o4,rfl⟩,e,hl⟩
 have q:SqL K H2 a xs:=SqL.of (e _ _ ha)
 by_cases hlt:i < xs.length
 ·refine .inr ⟨⟨xs,xs[i],q,by simp [hlt]⟩,fun x H3 y=>?_⟩
  obtain ⟨rfl,y⟩:=y
  have ex:=y xs q
  obtain ⟨p,x1,x2,x3,x4,rfl,hp⟩:=hf i x ex
  refine ⟨p,[x1,x2,x3,x4],rfl,SqT.of (e _ _ hp),rfl,x1,[x2,x3,x4],rfl,x2,[x3,x4],rfl,x3,[x4],rfl,x4,[],rfl,rfl,?_⟩
  refine ⟨fun H4=>keep i=false∧Same H3 H4,fun v H5=>keep i=true∧v=g i∧Same H3 H5,fun H4 ⟨k4,e4⟩=>⟨_,?_,rfl,hlt,⟨_,_,_,_,rfl⟩,e.trans e4,?_⟩,fun v H5 ⟨k5,ev,e5⟩=>?_,hs i p x1 x2 x3 x4 H3 ex hp e⟩
  ·omega
  ·rw [filter_succ,k4]; simpa using e4 _ _ hl
  ·subst ev
   refine ⟨_,e5 _ _ hl,Nat.lt_of_le_of_lt (filter_short keep g i) (Nat.lt_of_lt_of_le hlt (Nat.le_trans hz (by decide))),_,?_,rfl,hlt,⟨_,_,_,_,rfl⟩,same_new (e.trans e5) hl0,?_⟩
   ·omega
   ·rw [upd_same,filter_succ,k5]; rfl
 ·have ei:i=xs.length:=by omega
  subst ei
  exact .inl ⟨⟨xs,q,Nat.le_refl _⟩,hd l H2 hl0 e hl⟩
theorem compP4_dict {o:Obj} {d:Addr} {kvs:List (Key × V)} (Pz:Nat→Hp→V→Prop) (mono:∀ i H H' v,Same H H'→Pz i H v→Pz i H' v) (hfr:H d=some (.frz o (.dK kvs))) (hz:kvs.length ≤ 1000)
  (hf:∀ (i:Nat) (kv:Key × V),kvs[i]?=some kv→∃ p x1 x2 x3 x4,kv.2=.ref p∧H p=some (.tup [x1,x2,x3,x4]))
  (hs:∀ (i:Nat) (kv:Key × V) (p:Addr) (x1 x2 x3 x4:V) H2,kvs[i]?=some kv→kv.2=.ref p→H p=some (.tup [x1,x2,x3,x4])→Same H H2→te (some x1 :: some x2 :: some x3 :: some x4 :: caps σ js) H2 fun v H5=>Pz i H5 v∧Same H2 H5)
  (hd:∀ l H' vs,H l=none→Same H H'→H' l=some (.lst vs)→vs.length=kvs.length→(∀ (i:Nat) v,vs[i]?=some v→Pz i H' v∧v ≠ .ref l)→F l H') (hne:∀ i H v l,Pz i H v→(∃ ys,H l=some (.lst ys))→v ≠ .ref l) (hup:∀ i H v l ys,Pz i H v→v ≠ .ref l→Pz i (upd H l (.lst ys)) v):compRd 4 js (G4 K) tYes te σ F (Itp (·.2) o d) H:=by
 intro l hl0
 refine ⟨fun i m σ' H2=>m=kvs.length - i∧i ≤ kvs.length∧(∃ o1 o2 o3 o4,σ'=o1 :: o2 :: o3 :: o4 :: caps σ js)∧Same H H2∧∃ vs,H2 l=some (.lst vs)∧vs.length=i∧∀ (j:Nat) v,vs[j]?=some v→Pz j H2 v∧v ≠ .ref l,⟨kvs.length,by simp,Nat.zero_le _,⟨none,none,none,none,rfl⟩,same_upd (Same.refl _) hl0,[],upd_same,rfl,fun j v z=>by simp at z⟩,?_⟩
 rintro i m σ' H2 ⟨rfl,hi,⟨o1,o2,o3,o4,rfl⟩,e,vs,hl,vl,hv⟩
 have q:=e _ _ hfr
 by_cases hlt:i < kvs.length
 ·refine .inr ⟨⟨kvs,kvs[i],q,by simp [hlt]⟩,fun x H3 y=>?_⟩
  obtain ⟨rfl,y⟩:=y
  obtain ⟨kv,e1,rfl⟩:=y kvs q
  obtain ⟨p,x1,x2,x3,x4,ep,hp⟩:=hf i kv e1
  refine ⟨p,[x1,x2,x3,x4],ep,SqT.of (e _ _ hp),rfl,x1,[x2,x3,x4],rfl,x2,[x3,x4],rfl,x3,[x4],rfl,x4,[],rfl,rfl,?_⟩
  refine ⟨fun _=>False,fun v H5=>Pz i H5 v∧Same H3 H5,fun H4 z=>z.elim,fun v H5 ⟨p5,e5⟩=>?_,hs i kv p x1 x2 x3 x4 H3 e1 ep hp e⟩
  refine ⟨vs,e5 _ _ hl,by rw [vl]; exact Nat.lt_of_lt_of_le hlt (Nat.le_trans hz (by decide)),_,?_,rfl,hlt,⟨_,_,_,_,rfl⟩,same_new (e.trans e5) hl0,vs ++ [v],upd_same,by simp [vl],fun j u hu=>?_⟩
  ·omega
  ·by_cases hj:j < vs.length
   ·rw [List.getElem?_append_left hj] at hu
    obtain ⟨a1,a2⟩:=hv j u hu
    exact ⟨hup _ _ _ _ _ (mono _ _ _ _ e5 a1) a2,a2⟩
   ·rw [List.getElem?_append_right (by omega)] at hu
    have h0:j - vs.length=0:=by
     have:=(List.getElem?_eq_some_iff.mp hu).1
     simp at this
     omega
    rw [h0] at hu
    have:u=v:=by simpa using hu.symm
    subst this
    have ji:j=i:=by omega
    subst ji
    have nv:=hne _ _ _ l p5 ⟨_,e5 _ _ hl⟩
    exact ⟨hup _ _ _ _ _ p5 nv,nv⟩
 ·have ei:i=kvs.length:=by omega
  subst ei
  exact .inl ⟨⟨kvs,q,Nat.le_refl _⟩,hd l H2 vs hl0 e hl vl hv⟩
end
end L2
set_option maxRecDepth 100000
namespace L2
open PySem PySem.Spec PyProof.Rows
structure FunD (K : PySem.W.Frag) (x qual : Str) (st : Stmt) (f : Addr) (fd : FuncData) : Prop where
  ex : ∃ (oc : Value) (od : Option Addr) (dV kV doc pm : Value) (an : Option Addr) (cdv ct : Value) (osl : Array (Option Value)),
    fd = PySem.W.fnOf x qual (defArgs st) (defBody st) (defScope st) dV kV doc pm an cdv ct ∧ K.lookup f = some ⟨oc, od, .func fd, osl⟩ ∧ PySem.W.codeIn K cdv qual = true
  kp : PySem.W.keepIn K (.ref f) = true
section
variable {P : Program} {w : World} {K : PySem.W.Frag} {mg : Str → Option Value} {base : Heap}
theorem FunD.okX {x qual:Str} {st:Stmt} {f:Addr} {fd:FuncData} {N ps:List Str} {k:Nat} {sp:Sp} (F:FunD K x qual st f fd) (S:FnScope N ps (defScope st)) (len:∀ vs H Q E,sp vs H Q E→vs.length=ps.length)
  (hbody:∀ (cdv:Value) (A:Around) (outer:List Env) (s:Shared) (H:Hp) (vs:List V) (Q:VK) (E:XK),Room k (A.deeper (envOfC qual (defScope st) s.heap.objs.size f cdv))→sp vs H Q E→
   ∃ t,PSs (cxOf (CXE P w) P w K mg base N qual (defScope st) f cdv A outer s H E) (defBody st) t∧t { nx:=fun _ H'=>Q .non H',rt:=Q } (start N vs) H):FnOk P w K mg base (CXE P w) (k + 1) f fd ps sp:=by
 obtain ⟨oc,od,dV,kV,doc,pm,an,cdv,ct,osl,rfl,lk,hcd⟩:=F.ex
 exact fn_of lk hcd S len fun A outer s H vs Q E hr hsp=>hbody cdv A outer s H vs Q E hr hsp
end
end L2
set_option maxRecDepth 100000
namespace L2
open PySem PySem.Spec PyProof.Rows
section
variable {X : Cx} {tg : Expr}
end
end L2
set_option maxRecDepth 100000
namespace L2
open PySem PySem.Spec PyProof.Rows
def Ite (K:PySem.W.Frag) (a:Addr):It:=
 ⟨fun i H=>∃ xs x,SqL K H a xs∧xs[i]?=some x,fun i H v H'=>∃ T,H T=none∧v=.ref T∧∃ x,(∀ xs,SqL K H a xs→xs[i]?=some x)∧H'=upd H T (.tup [.int i,x]),fun i H=>∃ xs,SqL K H a xs∧xs.length ≤ i⟩
def tnEn (e it a:Addr) (i:Nat) (h:Heap):Prop:=(∃ old,IsEnum h e it i old)∧h.IsListIter it a i
theorem turn_enum {P:Program} {w:World} {K:PySem.W.Frag} {elts:List Expr} {x1:Nat} {tpos:Pos} (a e it:Addr) (ne:e ≠ it):Turn P w K (.Tuple elts x1 tpos) (Ite K a) [e,it] e (tnEn e it a) where
 mem:=by simp
 obj:=fun i h st c hc=>by
  obtain ⟨⟨old,h1⟩,⟨o2,e2,c2,d2⟩⟩:=st
  simp only [List.mem_cons,List.not_mem_nil,or_false] at hc
  rcases hc with rfl | rfl
  ·exact ⟨_,h1,fun v z=>by cases z⟩
  ·exact ⟨_,e2,fun v z=>by rw [d2] at z; cases z⟩
 keep:=fun i h h' st k=>by
  obtain ⟨⟨old,h1⟩,h2⟩:=st
  exact ⟨⟨old,k e (by simp) _ h1⟩,h2.at fun o z=>k it (by simp) o z⟩
 item:=by
  intro X hP hw hK hc i pins s σ H E I hf st hg
  subst hP hw hK
  obtain ⟨xs,x,hx,ex⟩:=hg
  obtain ⟨⟨old,h1⟩,h2⟩:=st
  obtain ⟨its,rv,p,hz⟩:=I.list hx
  obtain ⟨w1,ew1,r1⟩:=rv.get ex
  refine wpAny_pyNext_enum_item h1 h2 p.isList (x:=w1) (by simpa using ew1) ne fun h' a1 a2 a3 a4 a5=>?_
  refine ⟨_,rfl,wpAny_letOwnedTupleGo_enum (s:={ s with heap:=h',toks:=s.toks + 1 }) a1 fun h'' b1 sb=>?_⟩
  have hT:H s.heap.objs.size=none:=I.hok.fresh (Nat.le_refl _)
  have zne:∀ c ∈ [e,it],c ≠ s.heap.objs.size:=fun c hc z=>by
   have:∃ o,s.heap.get? c=some o:=by
    simp only [List.mem_cons,List.not_mem_nil,or_false] at hc
    obtain ⟨o2,e2,_⟩:=h2
    rcases hc with rfl | rfl
    ·exact ⟨_,h1⟩
    ·exact ⟨_,e2⟩
   obtain ⟨o,q⟩:=this
   exact absurd (Heap.lt_size q) (by rw [z]; exact Nat.lt_irrefl _)
  have kk:∀ c o,c ∉ [e,it]→s.heap.get? c=some o→h''.get? c=some o:=fun c o hc z=>by
   simp only [List.mem_cons,List.not_mem_nil,or_false,not_or] at hc
   exact sb.extBut _ _ hc.1 (a5 c o hc.1 hc.2 z)
  have I1:Inv X pins σ H { s with heap:=h'',toks:=s.toks + 1 }:=I.turnedN (t':=s.toks + 1) (ch:=[e,it]) hf kk
  have I2:Inv X pins σ (upd H s.heap.objs.size (.tup [.int i,x])) { s with heap:=h'',toks:=s.toks + 1 }:=by
   refine I1.track (I.fpOk (Nat.le_refl _) hT) I.sz ⟨by show 2 ≤ sizeLine; decide,[.int i s.toks,w1],.cons ⟨_,rfl⟩ (.cons r1 .nil),?_⟩
   exact ⟨_,sb.extBut _ _ (Ne.symm (zne e (by simp))) a3,rfl,_,rfl⟩
  refine ⟨.ref s.heap.objs.size,_,I2,rfl,⟨_,hT,rfl,x,fun xs' hx'=>by rw [I.list_inj hx' hx]; exact ex,rfl⟩,⟨⟨w1,?_⟩,?_⟩,fun c hc=>?_⟩
  ·simpa using b1
  ·exact a2.extBut sb.extBut (Ne.symm ne)
  ·rw [upd_ne (zne c hc)]
   exact (hf c hc).1
 done:=by
  intro X hP hw hK hc i pins s σ H E I hf st hg
  subst hP hw hK
  obtain ⟨xs,hx,hl⟩:=hg
  obtain ⟨⟨old,h1⟩,h2⟩:=st
  obtain ⟨its,rv,p,hz⟩:=I.list hx
  have l1:=rv.length
  refine wpAny_pyNext_enum_end (I.ok.hd hc) h1 h2 p.isList (by simp; omega) fun h' kk=>⟨rfl,I.turnedN (t':=s.toks) (ch:=[e,it]) hf fun c o hc z=>?_⟩
  simp only [List.mem_cons,List.not_mem_nil,or_false,not_or] at hc
  exact kk c o hc.2 z
 self:=fun _ _ _ _ _ st h=>wpAny_pyIter_enum st.1.choose_spec h
theorem boot_enumerate:bootBuiltins "enumerate"=some (.type "enumerate"):=by decide +kernel
def iEnum (K:PySem.W.Frag) (ta:TA):TI:=fun σ H R=>ta σ H fun vs H1=>∃ a xs,vs=[.ref a]∧H1 a=some (.lst xs)∧R (Ite K a) H1
theorem pi_enum {X:Cx} (K:PySem.W.Frag) {elts:List Expr} {x1:Nat} {tpos:Pos} {e1:Expr} {ta:TA} {p pos:Pos} (hg:Gl X "enumerate") (hm:X.mg "enumerate"=none) (ha:PA X [e1] ta) (hK:X.K=K:=by rfl)
  (hs:starEach [e1] X.env=[(false,eval e1 X.env)]:=by rfl):PI X (.Tuple elts x1 tpos) (.Call (.Name "enumerate" p) [e1] [] pos) (iEnum K ta):=by
 subst hK
 intro pins s σ H R I h
 refine Call_ (ld_blt I hg hm boot_enumerate (PyProof.Rows.callWith_type1 (thn (ha pos pins s σ H _ I h) fun us s1 ⟨vs,H1,I1,r1,q1⟩=>?_) hs rfl))
 obtain ⟨a,xs,rfl,hx,q⟩:=q1
 obtain ⟨u,rfl,ru⟩:=vals1 r1
 cases ru
 obtain ⟨its,n,rv,ho,hz⟩:=I1.lst hx
 refine call_enumerate_1 ho fun h' a1 a2 a3 a4=>wpAny_pyIter_enum a1 ?_
 have I2:Inv X pins σ H1 { s1 with heap:=h' }:=I1.kept (t':=s1.toks) a4
 refine ⟨_,[s1.heap.objs.size + 1,s1.heap.objs.size],_,_,H1,rfl,I2,turn_enum a _ _ (Nat.ne_of_gt (Nat.lt_succ_self _)),⟨⟨_,a1⟩,a2⟩,fun c hc=>?_,q⟩
 have le:@LE.le Nat _ s1.heap.objs.size c:=by
  simp only [List.mem_cons,List.not_mem_nil,or_false] at hc
  rcases hc with rfl | rfl
  ·exact Nat.le_succ _
  ·exact Nat.le_refl _
 exact I1.fpOk (H':=H1) (b:=c) le (I1.hok.fresh le)
theorem for_enum {K:PySem.W.Frag} {a:Addr} {xs:List V} {i1 i2:Nat} {tb:TS} {D:Ends} {σ:St} {H:Hp} (Pv:Nat→St→Hp→Prop) (h0:Pv 0 σ H) (hl:∀ i σ H,i ≤ xs.length→Pv i σ H→SqL K H a xs)
  (hs:∀ (i:Nat) (x:V) (T:Addr) σ H,xs[i]?=some x→Pv i σ H→H T=none→tb { D with nx:=Pv (i + 1),ct:=Pv (i + 1),bk:=D.nx } ((σ.set i1 (some (.int i))).set i2 (some x)) (upd H T (.tup [.int i,x]))) (hd:∀ σ H,Pv xs.length σ H→D.nx σ H):
  ∃ W:Nat→Nat→St→Hp→Prop,(∃ m,W 0 m σ H)∧∀ i m σ H,W i m σ H→
   ((Ite K a).stop i H∧D.nx σ H) ∨ ((Ite K a).go i H∧∃ N:St→Hp→Prop,(∀ σ' H',N σ' H'→∃ m',m' < m∧W (i + 1) m' σ' H')∧∀ x H',(Ite K a).yld i H x H'→gTup K 2 (gCons (gName i1) (gCons (gName i2) gNil)) x σ H' fun σ2 H2=>tb { D with nx:=N,ct:=N,bk:=D.nx } σ2 H2):=by
 refine ⟨fun i m σ H=>m=xs.length - i∧i ≤ xs.length∧Pv i σ H,⟨xs.length,by simp,Nat.zero_le _,h0⟩,?_⟩
 rintro i m σ H ⟨rfl,hi,p⟩
 have q:=hl i σ H hi p
 by_cases hlt:i < xs.length
 ·refine .inr ⟨⟨xs,xs[i],q,by simp [hlt]⟩,Pv (i + 1),fun σ' H' p'=>⟨xs.length - (i + 1),by omega,rfl,hlt,p'⟩,fun v H' y=>?_⟩
  obtain ⟨T,hT,rfl,x,ex,rfl⟩:=y
  exact ⟨T,[.int i,x],rfl,SqT.of upd_same,rfl,_,[x],rfl,_,[],rfl,rfl,hs i x T σ H (ex xs q) p hT⟩
 ·have e:i=xs.length:=by omega
  subst e
  exact .inl ⟨⟨xs,q,Nat.le_refl _⟩,hd σ H p⟩
end L2
set_option maxRecDepth 100000
namespace L2
open PySem PySem.Spec PyProof.Rows
section
variable {X : Cx}
end
end L2
set_option maxRecDepth 100000
namespace L2
open PySem PySem.Spec PyProof.Rows
def isA:Hp→V→Key→Prop:=fun _ x k=>x=kV k
theorem flat_kV (k:Key):flatV (kV k)=true:=by cases k <;> rfl
theorem eqV_kV (a b:Key):eqV (kV a) (kV b)=decide (a=b):=by
 cases a with
 | inl a=>cases b with
  | inl b=>show (a == b)=_; rw [Bool.eq_iff_iff]; simp
  | inr b=>exact (decide_eq_false (fun z=>nomatch z)).symm
 | inr a=>cases b with
  | inl b=>exact (decide_eq_false (fun z=>nomatch z)).symm
  | inr b=>show (a == b)=_; rw [Bool.eq_iff_iff]; simp
theorem eqk_key {K:PySem.W.Frag}:EqK K isA 0 where
 eq:=by
  intro X A pins s σ H x y v u a b _ I rx ry ha hb _
  cases ha
  cases hb
  rw [← eqV_kV]
  exact eqAt_V rx ry (flat_kV a) (flat_kV b)
 fn:=by
  intro X pins s σ H x a b _ I ha hb
  unfold isA at ha hb
  rw [ha] at hb
  exact kV_inj hb
def isTs (K:PySem.W.Frag) {α:Type} (R:Hp→V→α→Prop):Hp→V→List α→Prop:=fun H x as=>∃ p vs,x=.ref p∧SqT K H p vs∧Paired (R H) vs as
section
variable {K : PySem.W.Frag} {α : Type} [DecidableEq α] {R : Hp → V → α → Prop} {k : Nat}
theorem isTs_fn (h:EqK K R k) {X:Cx} {pins:List (Addr × Obj)} {s:Shared} {σ:St} {H:Hp} {x:V} {as bs:List α} (hK:X.K=K) (I:Inv X pins σ H s) (ha:isTs K R H x as) (hb:isTs K R H x bs):as=bs:=by
 obtain ⟨p,vs,rfl,h1,h2⟩:=ha
 obtain ⟨q,ws,e,h3,h4⟩:=hb
 cases e
 subst hK
 have:=I.tuple_inj h1 h3
 subst this
 exact paired_uniq (fun a b c=>h.fn X pins s σ H a b c rfl I) h2 h4
theorem isTs_at (h:EqK K R k) {X:Cx} {A:Around} {pins:List (Addr × Obj)} {s:Shared} {σ:St} {H:Hp} {vs ws:List V} {its its2:List Value} {as bs:List α} (hK:X.K=K) (I:Inv X pins σ H s) (r1:Vals vs its) (r2:Vals ws its2) (p1:Paired (R H) vs as) (p2:Paired (R H) ws bs) (hu:A.units + k < cLine):
  ∀ j (h1:j < its.toArray.size) (h2:j < its2.toArray.size),SeqAt.EqAt A s its.toArray[j] its2.toArray[j] (decide (as[j]?=bs[j]?)):=fun j h1 h2=>by
 rw [List.size_toArray] at h1 h2
 obtain ⟨x,ex,rx⟩:=r1.at' (i:=j) (u:=its[j]) (by simp)
 obtain ⟨y,ey,ry⟩:=r2.at' (i:=j) (u:=its2[j]) (by simp)
 obtain ⟨a,ea,ra⟩:=Paired.at p1 ex
 obtain ⟨b,eb,rb⟩:=Paired.at p2 ey
 have:=h.eq X A pins s σ H x y _ _ a b hK I rx ry ra rb hu
 rw [ea,eb]
 have e:decide (some a=some b)=decide (a=b):=by
  rw [Bool.eq_iff_iff,decide_eq_true_iff,decide_eq_true_iff]
  exact ⟨Option.some.inj,congrArg some⟩
 rw [e]
 simpa using this
theorem eqk_tup (h:EqK K R k):EqK K (isTs K R) (k + 1) where
 eq:=by
  intro X A pins s σ H x y v u as bs hK I rx ry ha hb hu
  by_cases hxy:x=y
  ·subst hxy
   have e:=isTs_fn h hK I ha hb
   subst e
   obtain ⟨p,vs,rfl,h1,h2⟩:=ha
   cases rx
   cases ry
   rw [decide_eq_true rfl]
   exact SeqAt.EqAt.same _
  ·obtain ⟨p,vs,rfl,h1,h2⟩:=ha
   obtain ⟨q,ws,rfl,h3,h4⟩:=hb
   cases rx
   cases ry
   have hne:p ≠ q:=fun e=>hxy (by rw [e])
   subst hK
   obtain ⟨its,r1,pl,hz⟩:=I.tuple h1
   obtain ⟨its2,r2,pl2,hz2⟩:=I.tuple h3
   refine SeqAt.EqAt.of_refs hne ?_
   have l1:=r1.length
   have l2:=r2.length
   have l3:=Paired.length h2
   have l4:=Paired.length h4
   have he:=isTs_at (A:=A.in1) h rfl I r1 r2 h2 h4 (by rw [Around.in1_units]; omega)
   have:=SeqAt.RcAt.tuples (e:=fun j=>decide (as[j]?=bs[j]?)) (A:=A) (s:=s) pl pl2 (by omega) he
   have e:((List.range (min its.toArray.size its2.toArray.size)).all (fun j=>decide (as[j]?=bs[j]?)) && its.toArray.size == its2.toArray.size)=decide (as=bs):=by
    rw [List.size_toArray,List.size_toArray,Bool.eq_iff_iff,Bool.and_eq_true,List.all_eq_true,decide_eq_true_iff,beq_iff_eq]
    constructor
    ·rintro ⟨hh,hl⟩
     apply List.ext_getElem?
     intro i
     by_cases hi:i < its.length
     ·exact of_decide_eq_true (hh i (List.mem_range.mpr (by omega)))
     ·rw [List.getElem?_eq_none (by omega),List.getElem?_eq_none (by omega)]
    ·rintro rfl
     exact ⟨fun i _=>decide_eq_true rfl,by omega⟩
   rw [e] at this
   exact this
 fn:=fun X pins s σ H x as bs hK I ha hb=>isTs_fn h hK I ha hb
end
section
variable {K : PySem.W.Frag} {js : List Nat} {te : TE} {σ : St} {F : Addr → Hp → Prop} {H : Hp}
end
end L2
set_option maxRecDepth 100000
namespace L2
open PySem PySem.Spec PyProof.Rows
theorem range_mapG {α β:Type} {xs:List α} {d:α} {f:α→β}:(List.range xs.length).map (fun i=>f (xs.getD i d))=xs.map f:=by
 apply List.ext_getElem?
 intro i
 rw [List.getElem?_map,List.getElem?_map]
 by_cases h:i < xs.length
 ·rw [List.getElem?_range h,List.getElem?_eq_getElem h]
  simp only [Option.map_some,List.getD_eq_getElem?_getD,List.getElem?_eq_getElem h,Option.getD_some]
 ·rw [List.getElem?_eq_none (by simpa using h),List.getElem?_eq_none (by omega)]
  rfl
section
variable {K : PySem.W.Frag} {js : List Nat} {te : TE} {σ : St} {F : Addr → Hp → Prop} {H : Hp}
theorem compV_list {a:Addr} {xs:List V} (g:Nat→V) (ha:H a=some (.lst xs)) (hz:xs.length ≤ 1000)
  (hs:∀ (i:Nat) (x:V) H2,xs[i]?=some x→Same H H2→te (some x :: caps σ js) H2 fun v H5=>v=g i∧Same H2 H5)
  (hd:∀ l H',H l=none→Same H H'→H' l=some (.lst ((List.range xs.length).map g))→F l H'):compRd 1 js (gName 0) tYes te σ F (Itl K a) H:=by
 intro l hl0
 refine ⟨fun i m σ' H2=>m=xs.length - i∧i ≤ xs.length∧(∃ o,σ'=o :: caps σ js)∧Same H H2∧H2 l=some (.lst ((List.range i).map g)),⟨xs.length,by simp,Nat.zero_le _,⟨none,rfl⟩,same_upd (Same.refl _) hl0,upd_same⟩,?_⟩
 rintro i m σ' H2 ⟨rfl,hi,⟨o',rfl⟩,e,hl⟩
 have q:SqL K H2 a xs:=SqL.of (e _ _ ha)
 by_cases hlt:i < xs.length
 ·refine .inr ⟨⟨xs,xs[i],q,by simp [hlt]⟩,fun x H3 y=>?_⟩
  obtain ⟨rfl,y⟩:=y
  refine ⟨fun H4=>False,fun v H5=>v=g i∧Same H3 H5,fun H4 z=>z.elim,fun v H5 ⟨ev,e5⟩=>?_,hs i x H3 (y xs q) e⟩
  subst ev
  refine ⟨_,e5 _ _ hl,by simp only [List.length_map,List.length_range]; exact Nat.lt_of_lt_of_le hlt (Nat.le_trans hz (by decide)),_,?_,rfl,hlt,⟨_,rfl⟩,same_new (e.trans e5) hl0,?_⟩
  ·omega
  ·rw [upd_same,List.range_succ,List.map_append]; rfl
 ·have ei:i=xs.length:=by omega
  subst ei
  exact .inl ⟨⟨xs,q,Nat.le_refl _⟩,hd l H2 hl0 e hl⟩
theorem compV_range {lo:Int} {n:Nat} (g:Nat→V) (hz:n ≤ 1000)
  (hs:∀ (i:Nat) H2,i < n→Same H H2→te (some (.int (lo + i)) :: caps σ js) H2 fun v H5=>v=g i∧Same H2 H5)
  (hd:∀ l H',H l=none→Same H H'→H' l=some (.lst ((List.range n).map g))→F l H'):compRd 1 js (gName 0) tYes te σ F (Itr lo n) H:=by
 intro l hl0
 refine ⟨fun i m σ' H2=>m=n - i∧i ≤ n∧(∃ o,σ'=o :: caps σ js)∧Same H H2∧H2 l=some (.lst ((List.range i).map g)),⟨n,by simp,Nat.zero_le _,⟨none,rfl⟩,same_upd (Same.refl _) hl0,upd_same⟩,?_⟩
 rintro i m σ' H2 ⟨rfl,hi,⟨o',rfl⟩,e,hl⟩
 by_cases hlt:i < n
 ·refine .inr ⟨hlt,fun x H3 y=>?_⟩
  obtain ⟨rfl,rfl⟩:=y
  refine ⟨fun H4=>False,fun v H5=>v=g i∧Same H3 H5,fun H4 z=>z.elim,fun v H5 ⟨ev,e5⟩=>?_,hs i H3 hlt e⟩
  subst ev
  refine ⟨_,e5 _ _ hl,by simp only [List.length_map,List.length_range]; exact Nat.lt_of_lt_of_le hlt (Nat.le_trans hz (by decide)),_,?_,rfl,hlt,⟨_,rfl⟩,same_new (e.trans e5) hl0,?_⟩
  ·omega
  ·rw [upd_same,List.range_succ,List.map_append]; rfl
 ·have ei:i=n:=by omega
  subst ei
  exact .inl ⟨Nat.le_refl _,hd l H2 hl0 e hl⟩
end
end L2
set_option maxRecDepth 100000
namespace L2
open PySem
theorem lk_list_keys:typeLookup (.type "list") "keys"=pure none:=by rw [typeLookup_type,builtinLookup_eq_fast]; kernel_rfl
theorem entry_dloop:entryFor table "dict.update.loop"=some Builtin.«dict.update.loop»:=entryFor_of_tree (by kernel_rfl)
section
variable {prog : Program} {w : World} {A : Around} {E : Value → Shared → Prop} {s : Shared} {a : Addr}
theorem keys_none {xs:Array Value} {k:Nat} {sl:Array (Option Value)} {Q:Option Value→Shared→Prop} (hx:s.heap.get? a=some ⟨.type "list",none,.seq xs k,sl⟩) (hA:A.handled=none)
  (h:∀ h' tk e,Heap.NewExcOf s.heap h' e "AttributeError"→Q none { s with heap:=h',toks:=tk }):wpAny (model prog w) A (getAttr? (.ref a) "keys") Q E s:=by
 obtain ⟨hp,g,d,tk,os⟩:=s
 have hT:∀ tk',(⟨hp,g,d,tk',os⟩:Shared).TypeIs (.ref a) "list":=fun _=>⟨_,hx,rfl⟩
 have f1:=sub_AttributeError
 have f3:=F.slot_list_getattribute.lookup
 have f4:=F.slot_list_getattribute.bind (.ref a)
 have f5:=am_list_getattr_none
 unfold getAttr? getAttrBy? getAttrBy
 repeat (any_goals (first | assumption | exact hT _ | ((with_reducible show wpAny _ _ (call (Value.builtin "list.__getattribute__") _ _) _ _ _); refine call_meets F.slot_list_getattribute (hT _) am_entry_list_getattribute (F.args_list_getattribute_2 _ _) (meets_getattribute_miss_list a xs k sl "keys" _ lk_list_keys (by decide) (by size_fits)) ⟨hx,hA,fun h' tk' e hx'=>?_⟩) | wp_step))
 obtain ⟨t',u',he⟩:=hx'.there
 show wpAny _ _ (getattributeRaised _ _ _ _ _ _ _) _ _ _
 unfold getattributeRaised
 repeat (any_goals (first | assumption | wp_step))
 exact h _ _ _ hx'.of
end
section
variable {prog : Program} {w : World} {κ : Type} [DecidableEq κ] {knd : KeyKind prog w κ}
def PairsIn (knd:KeyKind prog w κ) (h:Heap) (items:Array Value) (ps:List (κ × Value)):Prop:=items.size=ps.length∧∀ (i:Nat) x p,items[i]?=some x→ps[i]?=some p→∃ t u,x=.ref t∧h.IsTuple t #[u,p.2]∧knd.is p.1 u=true
theorem loop_pairs {it l d:Addr} {items:Array Value} {ps:List (κ × Value)} {A:Around} (hh:A.handled=none) (hps:ps.length ≤ 1000) (hdl:d ≠ l) (hil:it ≠ l) (hdi:d ≠ it) (R:Result→Shared→Prop):
  ∀ (n i:Nat) (s:Shared),n=ps.length - i→i ≤ ps.length→s.heap.IsListIter it l i→s.heap.IsList l items→PairsIn knd s.heap items ps→s.heap.DictOf knd d (merged [] (ps.take i))→
   (∀ h' tk,h'.DictOf knd d (merged [] ps)→(∀ b o,b ≠ d→b ≠ it→s.heap.get? b=some o→h'.get? b=some o)→R (.ok (.ret .none)) { s with heap:=h',toks:=tk })→
   codeAny (model prog w) A (.builtin "dict.update.loop" ⟨[.ref d,.ref it,rawInt i,.none],[]⟩) R s:=by
 intro n
 induction n with
 | zero=>
  intro i s hn hi hit hl hp hd h
  have ei:i=ps.length:=by omega
  refine codeAny_builtin entry_dloop ?_
  unfold Builtin.«dict.update.loop»
  show wpAny _ _ (pyNext (.ref it) >>= _) _ _ _
  refine wpAny_bind (wpAny_pyNext_list_end hh hit hl (Array.getElem?_eq_none (by rw [hp.1]; omega)) fun h' ext=>?_)
  show wpAny _ _ (Builtin.Dict.addKeywords d [] >>= _) _ _ _
  obtain ⟨o,es,ep,ho,r⟩:=hd
  refine wpAny_bind (wpAny_pure (wpAny_pure (h h' _ ⟨o,es,ep,ext d o hdi ho,by rw [ei,List.take_length] at r; exact r⟩ fun b o hb1 hb2 hb=>ext b o hb2 hb)))
 | succ n ih=>
  intro i s hn hi hit hl hp hd h
  have hlt:i < ps.length:=by omega
  obtain ⟨p,ep⟩:∃ p,ps[i]?=some p:=⟨_,List.getElem?_eq_getElem hlt⟩
  obtain ⟨x,ex⟩:∃ x,items[i]?=some x:=⟨_,Array.getElem?_eq_getElem (by rw [hp.1]; exact hlt)⟩
  obtain ⟨t,u,rfl,ht,hk⟩:=hp.2 i x p ex ep
  refine codeAny_builtin entry_dloop ?_
  unfold Builtin.«dict.update.loop»
  show wpAny _ _ (pyNext (.ref it) >>= _) _ _ _
  have neT:∀ t' v',s.heap.IsTuple t' v'→t' ≠ it∧t' ≠ d:=fun t' v' ⟨o',ho',_,n',hd'⟩=>by
   obtain ⟨oi,hoi,_,hdi'⟩:=hit
   obtain ⟨od,es,ep,hod,_,hdd,_⟩:=hd
   constructor
   ·intro z
    rw [z,hoi] at ho'
    cases ho'
    rw [hdi'] at hd'
    cases hd'
   ·intro z
    rw [z,hod] at ho'
    cases ho'
    rw [hdd] at hd'
    cases hd'
  refine wpAny_bind (wpAny_pyNext_list_item hit hl ex fun h1 hit1 sb1=>?_)
  have keep1:∀ b o,b ≠ it→s.heap.get? b=some o→h1.get? b=some o:=fun b o hb e=>(sb1.2 b hb).trans e
  have tup1:∀ t' v',s.heap.IsTuple t' v'→h1.IsTuple t' v':=fun t' v' z=>by
   obtain ⟨o',ho',r'⟩:=id z
   exact ⟨o',keep1 t' o' (neT t' v' z).1 ho',r'⟩
  have hd1:h1.DictOf knd d (merged [] (ps.take i)):=by
   obtain ⟨o,es,ep,ho,r⟩:=hd
   exact ⟨o,es,ep,keep1 d o hdi ho,r⟩
  have hl1:h1.IsList l items:=by
   obtain ⟨o,ho,r⟩:=hl
   exact ⟨o,keep1 l o hil.symm ho,r⟩
  obtain ⟨ot,hot,hct,nt,hdt⟩:=tup1 t _ ht
  show wpAny _ _ (holding [.ref t] _ >>= _) _ _ _
  refine wpAny_bind (wpAny_holding (wpAny_bind (wpAny_tryCatch ?_)))
  unfold Builtin.Dict.pairItems
  refine wpAny_bind (wpAny_typeOf (T:="tuple") ⟨ot,hot,hct⟩ ?_)
  rw [if_pos (by decide)]
  refine wpAny_bind (wpAny_seqItems hot hdt (wpAny_pure ?_))
  show wpAny _ _ (holding [u,p.2] (dictSet d u p.2)) _ _ _
  have hml:(merged [] (ps.take i)).length ≤ sizeLine:=by
   have h1:=merged_length_le ([]:List (κ × Value)) (ps.take i)
   rw [List.length_take] at h1
   have h2:sizeLine=2 ^ 24:=rfl
   simp only [List.length_nil] at h1
   omega
  refine wpAny_holding (wpAny_dictSet_pairs (hsz:=hml) hk hd1 fun h2 hd2 sb2=>?_)
  have keep2:∀ b o,b ≠ d→h1.get? b=some o→h2.get? b=some o:=fun b o hb e=>(sb2.2 b hb).trans e
  refine wpAny_pure ⟨Code.quiet_builtin _ (by decide +kernel),?_⟩
  refine ih (i + 1) { s with heap:=h2,toks:=s.toks + 1 } (by omega) (by omega) ?_ ?_ ⟨hp.1,fun j x' p' h3 h4=>?_⟩ ?_ fun h' tk h3 h4=>h h' tk h3 fun b o hb1 hb2 hb=>h4 b o hb1 hb2 (keep2 b o hb1 (keep1 b o hb2 hb))
  ·obtain ⟨oi,hoi,r⟩:=hit1
   exact ⟨oi,keep2 it oi hdi.symm hoi,r⟩
  ·obtain ⟨ol,hol,r⟩:=hl1
   exact ⟨ol,keep2 l ol hdl.symm hol,r⟩
  ·obtain ⟨t',u',e',ht',hk'⟩:=hp.2 j x' p' h3 h4
   obtain ⟨o',ho',r'⟩:=tup1 t' _ ht'
   exact ⟨t',u',e',⟨o',keep2 t' o' (neT t' _ ht').2 ho',r'⟩,hk'⟩
  ·rw [merged_take_succ _ _ i p ep]
   exact hd2
theorem call_pairs {A:Around} {E:Value→Shared→Prop} {s:Shared} {l:Addr} {items:Array Value} {n:Nat} {sl:Array (Option Value)} {ps:List (κ × Value)} {Q:Value→Shared→Prop} (hh:A.handled=none) (hl:s.heap.get? l=some ⟨.type "list",none,.seq items n,sl⟩) (hp:PairsIn knd s.heap items ps) (hps:ps.length ≤ 1000)
  (h:∀ h' tk,h'.DictOf knd s.heap.objs.size (merged [] ps)→(∀ b o,s.heap.get? b=some o→h'.get? b=some o)→Q (.ref s.heap.objs.size) { s with heap:=h',toks:=tk }):
  wpAny (model prog w) A (call (.type "dict") [.ref l]) Q E s:=by
 refine callType_codes (Q₁:=fun obj s₁=>obj=.ref s.heap.objs.size∧s₁={ s with heap:=s.heap.push { cls:=.type "dict",data:=.dict #[] } }) F.kt_called_dict (F.kt_typeCall_dict_1 _) F.entry_dict_init (kt_code_dict_new _ ⟨rfl,rfl⟩) ?_
 rintro obj s₁ ⟨rfl,rfl⟩
 have hnew:(s.heap.push { cls:=.type "dict",data:=.dict #[] }).DictOf knd s.heap.objs.size []:=Heap.DictOf.new s.heap
 have hl':=Heap.get?_push_of_some (h:=s.heap) { cls:=.type "dict",data:=.dict #[] } hl
 refine ⟨hnew.typeIs,F.args_dict_init_2 _ _,?_⟩
 unfold Builtin.«dict.__init__»
 refine wpAny_bind ?_
 unfold Builtin.Dict.selfAndRest
 refine wpAny_bind (wpAny_notOrdered_dict hnew.typeIs ?_)
 show wpAny _ _ (pure (s.heap.objs.size,[Value.ref l])) _ _ _
 refine wpAny_pure ?_
 show wpAny _ _ (Builtin.Dict.updateFrom "dict.__init__" s.heap.objs.size (.ref l) [] .none) _ _ _
 unfold Builtin.Dict.updateFrom
 refine wpAny_bind (wpAny_typeOf (T:="list") ⟨_,hl',rfl⟩ ?_)
 rw [if_pos (by decide)]
 refine wpAny_bind (keys_none hl' hh fun h1 tk1 e1 ne1=>?_)
 rw [if_pos (show (none:Option Value).isNone=true from rfl)]
 have keep0:∀ b o,s.heap.get? b=some o→h1.get? b=some o:=fun b o e=>ne1.keeps b o (Heap.get?_push_of_some _ e)
 have hl1:h1.IsList l items:=⟨_,keep0 _ _ hl,rfl,n,rfl⟩
 refine wpAny_bind (wpAny_rule ?_)
 refine wpAny_bind (wpAny_pyIter_list (s:={ s with heap:=h1,toks:=tk1 }) hl1 ?_)
 refine wpAny_pure ⟨Code.quiet_builtin _ (by decide +kernel),?_⟩
 have kp:∀ b o,h1.get? b=some o→(h1.push { cls:=.type "list_iterator",data:=.fields #[.ref l,.int 0 0] }).get? b=some o:=fun b o e=>Heap.get?_push_of_some _ e
 have hd1:h1.DictOf knd s.heap.objs.size []:=by
  obtain ⟨o,es,ep,ho,r⟩:=hnew
  exact ⟨o,es,ep,ne1.keeps _ _ ho,r⟩
 have nl:s.heap.objs.size ≠ l:=Nat.ne_of_gt (Heap.lt_size hl)
 have lt1:s.heap.objs.size < h1.objs.size:=by
  obtain ⟨o,es,ep,ho,r⟩:=hd1
  exact Heap.lt_size ho
 refine loop_pairs (A:=A.in1) (knd:=knd) hh hps nl (Nat.ne_of_gt (Heap.lt_size (keep0 _ _ hl))) (Nat.ne_of_lt lt1) _ ps.length 0 { s with heap:=h1.push { cls:=.type "list_iterator",data:=.fields #[.ref l,.int 0 0] },toks:=tk1 } (by omega) (Nat.zero_le _) ⟨_,Heap.get?_push_size _ rfl,rfl,rfl⟩ ?_ ⟨hp.1,fun i x p h3 h4=>?_⟩ ?_ fun h' tk hD keep=>?_
 ·obtain ⟨o,ho,r⟩:=hl1
  exact ⟨o,kp _ _ ho,r⟩
 ·obtain ⟨t,u,e,⟨o,ho,r⟩,hk⟩:=hp.2 i x p h3 h4
  exact ⟨t,u,e,⟨o,kp _ _ (keep0 _ _ ho),r⟩,hk⟩
 ·obtain ⟨o,es,ep,ho,r⟩:=hd1
  exact ⟨o,es,ep,kp _ _ ho,by rw [List.take_zero]; exact r⟩
 ·refine ⟨rfl,h h' tk hD fun b o e=>keep b o (Nat.ne_of_lt (Heap.lt_size e)) (Nat.ne_of_lt (Heap.lt_size (keep0 b o e))) (kp b o (keep0 b o e))⟩
end
section
variable {X : Cx}
def PairsL (H:Hp) (p:Addr) (kvs:List (Key × V)):Prop:=∃ xs,H p=some (.lst xs)∧Paired (fun v (kv:Key × V)=>∃ t,v=.ref t∧H t=some (.tup [kV kv.1,kv.2])) xs kvs
theorem pairs_in {P:Program} {w:World} {H:Hp} {h:Heap} (hok:HOk P w H h):∀ {xs:List V} {kvs:List (Key × V)} {its:List Value},Paired (fun v (kv:Key × V)=>∃ t,v=.ref t∧H t=some (.tup [kV kv.1,kv.2])) xs kvs→Vals xs its→
  ∃ ps:List (Key × Value),KV kvs ps∧its.length=ps.length∧∀ (i:Nat) x p,its[i]?=some x→ps[i]?=some p→∃ t u,x=.ref t∧h.IsTuple t #[u,p.2]∧(mixKind P w).is p.1 u=true
 | _,_,_,.nil,.nil=>⟨[],.nil,rfl,fun i x p h1 _=>by simp at h1⟩
 | _,kv :: _,_,.cons ⟨t,e,ht⟩ r,.cons (b:=b) rv rvs=>by
  obtain ⟨ps,k1,k2,k3⟩:=pairs_in hok r rvs
  subst e
  obtain rfl:b=Value.ref t:=rv
  obtain ⟨_,its2,r2,ob,ho,hc,n,hd⟩:=(show ObjOk P w H h t (.tup [kV kv.1,kv.2]) from hok t _ ht)
  obtain ⟨u,v,rfl,ru,rv2⟩:=vals2 r2
  refine ⟨(kv.1,v) :: ps,.cons ⟨rfl,rv2⟩ k1,by simp [k2],fun i x p h1 h2=>?_⟩
  cases i with
  | zero=>
   have h1:Value.ref t=x:=by simpa using h1
   have h2:(kv.1,v)=p:=by simpa using h2
   subst h1 h2
   exact ⟨t,u,rfl,⟨ob,ho,hc,n,hd⟩,kV_is ru⟩
  | succ i=>exact k3 i x p (by simpa using h1) (by simpa using h2)
theorem call_dict_pairs (hc:X.calm=true):CallR X (.type "dict") (fun xs H Q=>∃ p kvs,xs=[.ref p]∧PairsL H p kvs∧kvs.length ≤ 1000∧NewQ H (.dK (mergeK [] kvs)) Q):=by
 intro pins s σ H xs us Q I r h
 obtain ⟨p,kvs,rfl,⟨ys,hy,hp⟩,hz,q⟩:=h
 obtain ⟨u,rfl,rx⟩:=vals1 r
 obtain rfl:u=Value.ref p:=rx
 obtain ⟨z,its,n,rv,e⟩:=(show ObjOk X.prog X.w H s.heap p (.lst ys) from I.hok p _ hy)
 obtain ⟨ps,k1,k2,k3⟩:=pairs_in I.hok hp rv
 have hkl:=KV.length k1
 refine call_pairs (knd:=mixKind X.prog X.w) (ps:=ps) (I.ok.hd hc) e ⟨by rw [List.size_toArray]; exact k2,fun i x p h1 h2=>k3 i x p (by simpa using h1) h2⟩ (by omega) fun h' tk hD keep=>?_
 have hz2:(mergeK [] kvs).length ≤ sizeLine:=by
  have h1:=length_mergeK kvs []
  rw [List.length_nil] at h1
  rw [sizeLine_eq]; omega
 refine ⟨.ref s.heap.objs.size,_,I.laid (t':=tk) keep (Nat.le_refl _) ?_,rfl,q.at (I.hok.fresh (Nat.le_refl _))⟩
 exact ⟨hz2,beq_eq_false_iff_ne.mpr (Nat.ne_of_gt I.big),_,k1.merge .nil,hD⟩
end
end L2
set_option maxRecDepth 100000
namespace L2
open PySem
section
variable {prog : Program} {w : World} {κ : Type} [DecidableEq κ] {knd : KeyKind prog w κ}
theorem call_dcopy {A:Around} {E:Value→Shared→Prop} {s:Shared} {l:Addr} {ps:List (κ × Value)} {Q:Value→Shared→Prop} (hl:s.heap.DictOf knd l ps) (hS:(l == sysModules)=false) (hz:ps.length ≤ sizeLine)
  (h:∀ h',h'.DictOf knd s.heap.objs.size (merged [] ps)→(∀ b o,s.heap.get? b=some o→h'.get? b=some o)→Q (.ref s.heap.objs.size) { s with heap:=h' }):
  wpAny (model prog w) A (call (.type "dict") [.ref l]) Q E s:=by
 refine callType_codes (Q₁:=fun obj s₁=>obj=.ref s.heap.objs.size∧s₁={ s with heap:=s.heap.push { cls:=.type "dict",data:=.dict #[] } }) F.kt_called_dict (F.kt_typeCall_dict_1 _) F.entry_dict_init (kt_code_dict_new _ ⟨rfl,rfl⟩) ?_
 rintro obj s₁ ⟨rfl,rfl⟩
 have hnew:(s.heap.push { cls:=.type "dict",data:=.dict #[] }).DictOf knd s.heap.objs.size []:=Heap.DictOf.new s.heap
 have kp:∀ b o,s.heap.get? b=some o→(s.heap.push { cls:=.type "dict",data:=.dict #[] }).get? b=some o:=fun b o e=>Heap.get?_push_of_some _ e
 have lt:l < s.heap.objs.size:=by
  obtain ⟨o,es,ep,ho,r⟩:=hl
  exact Heap.lt_size ho
 have hl':(s.heap.push { cls:=.type "dict",data:=.dict #[] }).DictOf knd l ps:=by
  obtain ⟨o,es,ep,ho,r⟩:=hl
  exact ⟨o,es,ep,kp _ _ ho,r⟩
 refine ⟨hnew.typeIs,F.args_dict_init_2 _ _,?_⟩
 unfold Builtin.«dict.__init__»
 refine wpAny_bind ?_
 unfold Builtin.Dict.selfAndRest
 refine wpAny_bind (wpAny_notOrdered_dict hnew.typeIs ?_)
 show wpAny _ _ (pure (s.heap.objs.size,[Value.ref l])) _ _ _
 refine wpAny_pure ?_
 show wpAny _ _ (Builtin.Dict.updateFrom "dict.__init__" s.heap.objs.size (.ref l) [] .none) _ _ _
 unfold Builtin.Dict.updateFrom
 refine wpAny_bind (wpAny_typeOf hl'.typeIs ?_)
 rw [if_neg (by decide)]
 refine wpAny_bind ?_
 unfold Builtin.Dict.merge
 refine wpAny_bind ?_
 unfold Builtin.Dict.readDirectly
 refine wpAny_bind (wpAny_isInstance hl'.typeIs isSubtype_dict_dict ?_)
 simp only [Bool.not_true,Bool.false_eq_true,if_false]
 refine wpAny_bind (wpAny_specialOf hl'.typeIs F.slot_dict_iter.lookup (wpAny_pure ?_))
 simp only [beq_self_eq_true,if_true]
 refine wpAny_bind (wpAny_pure ?_)
 refine wpAny_mergeDict (hsz:=by simpa using hz) (Nat.ne_of_gt lt) hS hnew hl' fun h' hd' ho' hs'=>?_
 show wpAny _ _ (Builtin.Dict.addKeywords s.heap.objs.size [] >>= _) _ _ _
 refine wpAny_bind (wpAny_pure (wpAny_pure ⟨rfl,h h' hd' fun b o e=>?_⟩))
 exact (hs'.2 b (Nat.ne_of_lt (Heap.lt_size e))).trans (kp b o e)
end
section
variable {X : Cx}
theorem call_dict_dK:CallR X (.type "dict") (fun xs H Q=>∃ p kvs,xs=[.ref p]∧H p=some (.dK kvs)∧NewQ H (.dK (mergeK [] kvs)) Q):=by
 intro pins s σ H xs us Q I r h
 obtain ⟨p,kvs,rfl,hy,q⟩:=h
 obtain ⟨u,rfl,rx⟩:=vals1 r
 obtain rfl:u=Value.ref p:=rx
 obtain ⟨z,hS,ps,k1,hD⟩:=(show ObjOk X.prog X.w H s.heap p (.dK kvs) from I.hok p _ hy)
 have hkl:=KV.length k1
 refine call_dcopy (knd:=mixKind X.prog X.w) hD hS (by omega) fun h' hD' keep=>?_
 have hz2:(mergeK [] kvs).length ≤ sizeLine:=by
  have h1:=length_mergeK kvs []
  rw [List.length_nil] at h1
  omega
 refine ⟨.ref s.heap.objs.size,_,I.laid (t':=s.toks) keep (Nat.le_refl _) ?_,rfl,q.at (I.hok.fresh (Nat.le_refl _))⟩
 exact ⟨hz2,beq_eq_false_iff_ne.mpr (Nat.ne_of_gt I.big),_,k1.merge .nil,hD'⟩
end
end L2
set_option maxRecDepth 100000
namespace L2
open PySem PySem.Spec PySem.Calls PyProof.Rows
theorem ints_vals:∀ {us:List Value} {ns:List Int},IntsAre us ns→Vals (ns.map V.int) us
 | _,_,.nil=>.nil
 | _,_,.cons _ t h=>.cons ⟨t,rfl⟩ (ints_vals h)
section
variable {X : Cx}
end
end L2
set_option maxRecDepth 100000
namespace L2
open PySem PySem.Spec PySem.Calls PyProof.Rows
theorem vals_intsA:∀ {us:List Value} {ns:List Int},Vals (ns.map V.int) us→IntsAre us ns
 | us,[],h=>by cases h; exact .nil
 | us,n :: ns,h=>by
  cases h with
  | cons a b=>
   obtain ⟨t,rfl⟩:=a
   exact .cons n t (vals_intsA b)
section
variable {X : Cx}
end
end L2
set_option maxRecDepth 100000
namespace L2
open PySem PySem.Spec PyProof.Rows
theorem on_no {X:Cx}:ThrOn X (fun _ _ _ _=>False):=fun pins σ H s e s' I h=>by
 obtain ⟨ea,cls,a0,B,H',od,_,_,_,_,_,_,_,_,_,_,z⟩:=h
 exact z.elim
def DmXd (P:Program) (w:World) (K:PySem.W.Frag) (mg:Str→Option Value) (base:Heap) (k:Nat) (C:Addr) (m:Str) (ps:List Str) (dvs:List V) (sp:Sp):Prop:=
 ∃ f fd ds,Cls K C∧Meth K C m f∧Binds K fd ps ds∧Vals dvs ds∧FnOk P w K mg base (CXE P w) k f fd ps sp
section
variable {X : Cx} {k : Nat} {C : Addr} {ps : List Str} {sp : Sp} {m : Str} {pos apos : Pos} {e o : Expr} {es : List Expr} {ta : TE} {t : TA} {W : St → XK} {dvs : List V}
theorem run_fnXd {f:Addr} {fd:FuncData} {pins:List (Addr × Obj)} {σ:St} {H:Hp} {s:Shared} {Q:VK} {us ds:List Value} {vs:List V} (F:FnOk X.prog X.w X.K X.mg X.base (CXE X.prog X.w) k f fd ps sp) (hr:Room k X.A) (hb:Binds X.K fd ps ds) (hd:Vals dvs ds) (hx:ThrOn X W)
  (I:Inv X pins σ H s) (r:Vals vs us) (h:sp (vs ++ dvs) H Q (W σ)):wpAny (model X.prog X.w) X.A (call (.ref f) us) (EP X pins σ Q) X.xe s:=by
 have r2:Vals (vs ++ dvs) (us ++ ds):=r.append hd
 have hl:(us ++ ds).length=ps.length:=by rw [← r2.length]; exact F.len _ _ _ _ h
 refine wpAny_call (codeAny_mono (F.run X.A X.stack s H ⟨us,[]⟩ (us ++ ds) (vs ++ dvs) Q (W σ) hr I.env0 (hb s us I.kIn hl) r2 h) fun r s' hq=>?_)
 cases r with
 | error e=>exact hx pins σ H s e s' I hq
 | ok fl=>
  cases fl with
  | ret u=>exact I.after hq
  | next=>exact False.elim hq
  | brk=>exact False.elim hq
  | cont=>exact False.elim hq
def tMethXd (C:Addr) (m:Str) (sp:Sp) (dvs:List V) (W:St→XK) (ta:TE) (t:TA):TE:=fun σ H Q=>ta σ H fun x H1=>∃ a dx fs,x=.ref a∧H1 a=some (.ins C dx fs)∧fs.lookup m=none∧t σ H1 fun vs H2=>sp ((x :: vs) ++ dvs) H2 Q (W σ)
theorem pe_methXd {pl:Sem Bool} (hx:ThrOn X W) (he:PE X o ta) (D:DmXd X.prog X.w X.K X.mg X.base k C m ps dvs sp) (hr:Room k X.A) (ha:PA X (e :: es) t)
  (hst:starEach (e :: es) X.env=(false,eval e X.env) :: starEach es X.env:=by rfl) (hpl:(backTo pos (starEach es X.env)).any (·.1)=false:=by rfl)
  (ht:eval (.Call (.Attribute o m apos) (e :: es) [] pos) X.env=(do
   let ov ← eval o X.env
   standAt apos.atName
   let (f,first) ← holding [ov] (getMethod ov m pl)
   callWith pos f first (backTo pos (starEach (e :: es) X.env)) (backToKw pos (keywordEach [] X.env))):=by rfl):
  PE X (.Call (.Attribute o m apos) (e :: es) [] pos) (tMethXd C m sp dvs W ta t):=by
 obtain ⟨f,fd,ds,cl,hm,hb,hdv,F⟩:=D
 intro pins s σ H Q I h
 refine PySem.W.methodCall_KW (pl:=pl) (thn (he pins s σ H _ I h) fun u s1 ⟨x,H1,I1,rx,a,dx,fs,ex,ea,l,q⟩=>?_) ht
 subst ex
 obtain rfl:u=Value.ref a:=rx
 refine getmeth_ok I1 ea cl hm l ?_
 refine PySem.W.callWith_K (first:=[.ref a]) (h₀:=X.base) I.ok.mod.kin hm.kp (thn (ha pos pins s1 σ H1 _ I1 q) fun us s2 ⟨vs,H2,I2,r,q2⟩=>⟨I2.kIn,?_⟩) hst hpl
 exact run_fnXd (us:=.ref a :: us) (vs:=.ref a :: vs) F hr hb hdv hx I2 (.cons rfl r) q2
end
end L2
set_option maxRecDepth 100000
namespace L2.Sk
open PySem
def Rise (xs:Array Nat):Prop:=∀ i j,i < j→j < xs.size→xs.getD i 0 < xs.getD j 0
theorem getD_eq (xs:Array Nat) {i:Nat} (h:i < xs.size) (d d':Nat):xs.getD i d=xs.getD i d':=by
 simp [Array.getD,h]
theorem below_go {xs:Array Nat} {j:Nat} (hr:Rise xs):∀ (f lo hi:Nat),hi - lo ≤ f→lo ≤ hi→hi ≤ xs.size→(∀ i,i < lo→xs.getD i 0 < j)→(∀ i,hi ≤ i→i < xs.size→j ≤ xs.getD i 0)→
  SetTable.below.go xs j f lo hi ≤ xs.size∧(∀ i,i < SetTable.below.go xs j f lo hi→xs.getD i 0 < j)∧(∀ i,SetTable.below.go xs j f lo hi ≤ i→i < xs.size→j ≤ xs.getD i 0)
 | 0,lo,hi,hf,hl,hh,h1,h2=>by
  have:lo=hi:=by omega
  subst this
  exact ⟨hh,h1,h2⟩
 | f + 1,lo,hi,hf,hl,hh,h1,h2=>by
  unfold SetTable.below.go
  by_cases hlt:lo < hi
  ·rw [if_pos hlt]
   have hm:(lo + hi) / 2 < xs.size:=by omega
   simp only
   rw [getD_eq xs hm j 0]
   by_cases hc:xs.getD ((lo + hi) / 2) 0 < j
   ·rw [if_pos hc]
    refine below_go hr f _ _ (by omega) (by omega) hh (fun i hi'=>?_) h2
    by_cases he:i=(lo + hi) / 2
    ·rw [he]; exact hc
    ·have:=hr i ((lo + hi) / 2) (by omega) hm
     omega
   ·rw [if_neg hc]
    refine below_go hr f _ _ (by omega) (by omega) (by omega) h1 (fun i hi' hs=>?_)
    by_cases he:i=(lo + hi) / 2
    ·rw [he]; omega
    ·have:=hr ((lo + hi) / 2) i (by omega) hs
     omega
  ·rw [if_neg hlt]
   have:lo=hi:=by omega
   subst this
   exact ⟨hh,h1,h2⟩
theorem below_ok {xs:Array Nat} (hr:Rise xs) (j:Nat):SetTable.below xs j ≤ xs.size∧(∀ i,i < SetTable.below xs j→xs.getD i 0 < j)∧(∀ i,SetTable.below xs j ≤ i→i < xs.size→j ≤ xs.getD i 0):=by
 unfold SetTable.below
 exact below_go hr _ _ _ (by omega) (Nat.zero_le _) (Nat.le_refl _) (fun i h=>absurd h (Nat.not_lt_zero _)) (fun i h h'=>by omega)
theorem getD_list (xs:Array Nat) (i d:Nat):xs.getD i d=xs.toList.getD i d:=by
 rw [List.getD_eq_getElem?_getD,Array.getElem?_toList,Array.getD_eq_getD_getElem?]
theorem rise_insert {xs:Array Nat} {j:Nat} (hr:Rise xs) (hn:xs[SetTable.below xs j]? ≠ some j):Rise (SetTable.insertAt xs (SetTable.below xs j) j):=by
 obtain ⟨h1,h2,h3⟩:=below_ok hr j
 generalize SetTable.below xs j=p at h1 h2 h3 hn
 have hl:(SetTable.insertAt xs p j).toList=xs.toList.take p ++ j :: xs.toList.drop p:=SetTable.toList_insertAt xs p j
 have hs:(SetTable.insertAt xs p j).size=xs.size + 1:=by
  rw [← Array.length_toList,hl,List.length_append,List.length_cons,List.length_take,List.length_drop,Array.length_toList]
  omega
 have at_:∀ i,(SetTable.insertAt xs p j).getD i 0=if i < p then xs.getD i 0 else if i=p then j else xs.getD (i - 1) 0:=fun i=>by
  rw [getD_list,hl,List.getD_eq_getElem?_getD]
  have tl:(xs.toList.take p).length=p:=by rw [List.length_take,Array.length_toList]; omega
  by_cases c1:i < p
  ·rw [if_pos c1,List.getElem?_append_left (by omega),List.getElem?_take_of_lt c1,getD_list,List.getD_eq_getElem?_getD]
  ·rw [if_neg c1,List.getElem?_append_right (by omega),tl]
   by_cases c2:i=p
   ·rw [if_pos c2,c2,Nat.sub_self]
    rfl
   ·rw [if_neg c2,show i - p=(i - p - 1) + 1 by omega,List.getElem?_cons_succ,List.getElem?_drop,getD_list,List.getD_eq_getElem?_getD,show p + (i - p - 1)=i - 1 by omega]
 have hp:∀ i,p ≤ i→i < xs.size→j < xs.getD i 0:=fun i hi his=>by
  have hge:=h3 i hi his
  by_cases c:i=p
  ·subst c
   have:xs.getD i 0 ≠ j:=fun z=>hn (by
    rw [Array.getElem?_eq_getElem his]
    congr 1
    simpa [Array.getD,his] using z)
   omega
  ·have:=hr p i (by omega) his
   have:=h3 p (Nat.le_refl _) (by omega)
   omega
 intro a b hab hb
 rw [hs] at hb
 rw [at_ a,at_ b]
 by_cases a1:a < p
 ·rw [if_pos a1]
  have ha:=h2 a a1
  by_cases b1:b < p
  ·rw [if_pos b1]; exact hr a b hab (by omega)
  ·rw [if_neg b1]
   by_cases b2:b=p
   ·rw [if_pos b2]; exact ha
   ·rw [if_neg b2]
    have:=hp (b - 1) (by omega) (by omega)
    omega
 ·rw [if_neg a1,if_neg (by omega:¬ b < p),if_neg (by omega:¬ b=p)]
  by_cases a2:a=p
  ·rw [if_pos a2]; exact hp (b - 1) (by omega) (by omega)
  ·rw [if_neg a2]; exact hr (a - 1) (b - 1) (by omega) (by omega)
theorem rise_range (n:Nat):Rise (Array.range n):=fun i j h hj=>by
 have hj:j < n:=by simpa using hj
 have:∀ k,k < n→(Array.range n).getD k 0=k:=fun k hk=>by simp [Array.getD,hk]
 rw [this i (by omega),this j hj]
 exact h
structure Good (t : SetTable) (led : Bool) : Prop where
  rise : Rise t.place
  none : t.dummies = #[]
  led : t.led = led
theorem Good.standIn {t:SetTable} {led:Bool} (g:Good t led) (n:Nat):Good (t.standIn n) led:=⟨rise_range n,rfl,g.led⟩
theorem has_nil (j:Nat):SetTable.has #[] j=false:=rfl
theorem probe_empty {t:SetTable} (hd:t.dummies=#[]) {f:Nat→Int} {h:Int}:∀ (n:Nat) (p:SetTable.Probe) (j:Nat) (d:Option Nat),p.dummy=Option.none→SetTable.probe.go t f h n p=some (.empty j d)→d=Option.none∧t.place[SetTable.below t.place j]? ≠ some j
 | 0,p,j,d,_,e=>by cases e
 | n + 1,p,j,d,hp,e=>by
  unfold SetTable.probe.go at e
  have hs:t.slot p.j=if t.place[SetTable.below t.place p.j]? == some p.j then .live (SetTable.below t.place p.j) else .empty:=by
   unfold SetTable.slot
   simp only
   rw [hd,has_nil]
   simp
  rw [hs] at e
  have ha:(t.advance p).dummy=Option.none:=by
   unfold SetTable.advance
   split
   ·exact hp
   ·exact hp
  by_cases c:(t.place[SetTable.below t.place p.j]? == some p.j)=true
  ·rw [if_pos c] at e
   simp only at e
   split at e
   ·cases e
   ·exact probe_empty hd n _ j d ha e
  ·rw [if_neg c] at e
   simp only at e
   cases e
   exact ⟨hp,fun z=>c (by rw [z]; simp)⟩
theorem Good.layNew {t:SetTable} {led:Bool} (g:Good t led) (es:Array (Int × Value)) (h:Int) (x:Value):Good (PySem.layNew t es h x).2.1 led:=by
 unfold PySem.layNew
 split
 ·rename_i slot wd hfs
  unfold SetTable.freeSlot at hfs
  split at hfs
  ·rename_i j d he
   unfold SetTable.probe at he
   obtain ⟨rfl,hn⟩:=probe_empty g.none _ _ _ _ rfl he
   have hsl:slot=j:=by
    have:=congrArg (fun o=>o.map Prod.fst) hfs
    simpa using this.symm
   subst hsl
   have gp:Good (t.put slot).1 led:=by
    refine ⟨rise_insert g.rise hn,?_,g.led⟩
    show (if SetTable.has t.dummies slot then _ else t.dummies)=#[]
    rw [g.none,has_nil]
    rfl
   simp only
   unfold SetTable.orStandIn
   split
   ·exact gp
   ·exact gp.standIn _
  ·cases hfs
 ·exact g.standIn _
theorem rise_filterMap (f:Nat→Option (Nat × Nat)) (hf:∀ j q,f j=some q→q.1=j) (n:Nat):Rise (((List.range n).filterMap f).map (·.1)).toArray:=by
 have hp:(((List.range n).filterMap f).map (·.1)).Pairwise (· < ·):=by
  rw [List.pairwise_map]
  refine List.Pairwise.filterMap f ?_ (List.pairwise_lt_range (n:=n))
  intro a b hab x hx y hy
  rw [hf a x hx,hf b y hy]
  exact hab
 intro i j hij hj
 have hj:j < (((List.range n).filterMap f).map (·.1)).length:=by simpa using hj
 rw [getD_list,getD_list,List.getD_eq_getElem?_getD,List.getD_eq_getElem?_getD]
 simp only [List.getElem?_eq_getElem hj,List.getElem?_eq_getElem (Nat.lt_trans hij hj),Option.getD_some]
 exact List.pairwise_iff_getElem.mp hp i j _ _ hij
theorem Good.relay {t:SetTable} {led:Bool} (g:Good t led) (es:Array (Int × Value)) (w:Nat):Good (relayAll t es w).2.1 led:=by
 unfold relayAll
 split
 ·rename_i t' order hr
  simp only
  split
  ·unfold SetTable.relaid SetTable.laid at hr
   obtain ⟨owner,_,he⟩:=Option.bind_eq_some_iff.mp hr
   have he:=Option.some.inj he
   have he:=(Prod.mk.inj he).1
   subst he
   refine ⟨rise_filterMap _ (fun j q hq=>?_) _,rfl,g.led⟩
   obtain ⟨z,_,rfl⟩:=Option.map_eq_some_iff.mp hq
   rfl
  ·exact g.standIn _
 ·exact g.standIn _
end L2.Sk
set_option maxRecDepth 100000
namespace L2.Sk
open PySem PySem.Calls PyProof.Rows
def byT (w:World):Bool:=w.params.followText "set-order"
def addI (S:List Int) (k:Int):List Int:=if k ∈ S then S else S ++ [k]
def SetI (prog:Program) (w:World) (h:Heap) (a:Addr) (S:List Int):Prop:=
 ∃ o es ep t ms,h.get? a=some o∧o.ExactSet∧o.data=.set es ep t∧t.fits es.size=true∧Good t (!byT w)∧ElemsOf (intKind prog w) es.toList∧IntsAre (es.toList.map (·.2)) ms∧ms.Perm S
theorem ints_len:∀ {vs:List Value} {ms:List Int},IntsAre vs ms→vs.length=ms.length
 | _,_,.nil=>rfl
 | _,_,.cons _ _ h=>by rw [List.length_cons,List.length_cons,ints_len h]
theorem ints_mem (k:Int):∀ {vs:List Value} {ms:List Int},IntsAre vs ms→(k ∈ ms ↔ ∃ v ∈ vs,Value.isInt k v=true)
 | _,_,.nil=>by simp
 | _,_,.cons n t h=>by
  have ih:=ints_mem k h
  rw [List.mem_cons,ih]
  constructor
  ·rintro (rfl | ⟨v,hv,e⟩)
   ·exact ⟨_,List.mem_cons_self ..,by simp [Value.isInt]⟩
   ·exact ⟨v,List.mem_cons_of_mem _ hv,e⟩
  ·rintro ⟨v,hv,e⟩
   rcases List.mem_cons.mp hv with rfl | hv
   ·exact .inl (by have e:(n == k)=true:=e; exact (eq_of_beq e).symm)
   ·exact .inr ⟨v,hv,e⟩
theorem ints_perm {vs vs':List Value} (p:vs'.Perm vs):∀ {ms:List Int},IntsAre vs ms→∃ ms',IntsAre vs' ms'∧ms'.Perm ms:=by
 induction p with
 | nil=>intro ms h; exact ⟨ms,h,.rfl⟩
 | cons x p ih=>
  intro ms h
  cases h with
  | cons n t h=>
   obtain ⟨ms',a,b⟩:=ih h
   exact ⟨n :: ms',.cons n t a,b.cons n⟩
 | swap x y l=>
  intro ms h
  cases h with
  | cons n t h=>
   cases h with
   | cons m u h=>exact ⟨m :: n :: _,.cons m u (.cons n t h),.swap ..⟩
 | trans p q ih1 ih2=>
  intro ms h
  obtain ⟨m1,a1,b1⟩:=ih2 h
  obtain ⟨m2,a2,b2⟩:=ih1 a1
  exact ⟨m2,a2,b2.trans b1⟩
theorem ints_snoc {vs:List Value} {ms:List Int} (h:IntsAre vs ms) (k:Int) (t:Tok):IntsAre (vs ++ [.int k t]) (ms ++ [k]):=by
 induction h with
 | nil=>exact .cons k t .nil
 | cons n u h ih=>exact .cons n u ih
section
variable {prog : Program} {w : World} {A : Around} {E : Value → Shared → Prop} {s : Shared} {a : Addr} {S : List Int}
theorem SetI.to {h h':Heap} (x:SetI prog w h a S) (k:∀ o,h.get? a=some o→h'.get? a=some o):SetI prog w h' a S:=let ⟨o,es,ep,t,ms,g,r⟩:=x; ⟨o,es,ep,t,ms,k o g,r⟩
theorem set_store {h:Heap} {o:Obj} {es es':Array (Int × Value)} {ep:Nat} {t t':SetTable} {ms:List Int} (g:h.get? a=some o) (x:o.ExactSet) (d:o.data=.set es ep t) (f:t'.fits es'.size=true) (gd:Good t' (!byT w))
  (el:ElemsOf (intKind prog w) es'.toList) (im:IntsAre (es'.toList.map (·.2)) ms) (pm:ms.Perm S):(h.update a (Obj.putSet es' t')).get? a=some { o with data:=.set es' (ep + 1) t' }∧SetI prog w (h.update a (Obj.putSet es' t')) a S:=by
 have hg:(h.update a (Obj.putSet es' t')).get? a=some { o with data:=.set es' (ep + 1) t' }:=by
  have q:=Heap.get?_update_self (Obj.putSet es' t') g (by rw [putSet_of es' t' d]; rfl)
  rwa [putSet_of es' t' d] at q
 exact ⟨hg,_,es',ep + 1,t',ms,hg,x,rfl,f,gd,el,im,pm⟩
theorem set_put {k:Int} {tk:Tok} {Q:Bool→Shared→Prop} (h:SetI prog w s.heap a S) (hb:S.length + 1 < scanBound) (hq:∀ b h',Heap.SameBut a s.heap h'→SetI prog w h' a (addI S k)→Q b { s with heap:=h' }):
  wpAny (model prog w) A (setAddHashed a (.int k tk) ((intKind prog w).hash k)) Q E s:=by
 obtain ⟨o,es,ep,t,ms,g1,g2,g3,g4,g5,g6,g7,g8⟩:=h
 have hkey:=intKind_is prog w k tk
 have hsz:es.size=S.length:=by
  have:=ints_len g7
  rw [List.length_map,Array.length_toList,g8.length_eq] at this
  exact this
 have hsb:es.size < scanBound:=by omega
 unfold setAddHashed setAddHashedIn
 apply wpAny_holding
 apply wpAny_bind
 refine wpAny_setState_of g1 g3 g4 ?_
 dsimp only
 rw [byScan_of (knd:=intKind prog w) (x:=.int k tk) rfl hsb g6]
 simp only [↓reduceIte]
 unfold setAddByScan
 apply wpAny_bind
 apply wpAny_bind
 apply wpAny_rule
 apply wpAny_bind
 refine wpAny_setScan_of hkey g1 g3 g4 g6 ?_
 have memk:(∃ e ∈ es.toList,(intKind prog w).is k e.2=true) ↔ k ∈ S:=by
  rw [← g8.mem_iff,ints_mem k g7]
  constructor
  ·rintro ⟨e,he,q⟩
   exact ⟨e.2,List.mem_map_of_mem he,q⟩
  ·rintro ⟨v,hv,q⟩
   obtain ⟨e,he,rfl⟩:=List.mem_map.mp hv
   exact ⟨e,he,q⟩
 cases hr:List.findIdx? (fun e=>(intKind prog w).is k e.2) es.toList with
 | some j=>
  obtain ⟨hj,hp,-⟩:=List.findIdx?_eq_some_iff_getElem.mp hr
  have hk:=memk.mp ⟨_,List.getElem_mem hj,hp⟩
  refine wpAny_pure (wpAny_pure ?_)
  have q:=hq false s.heap (Heap.SameBut.refl ..) (by unfold addI; rw [if_pos hk]; exact ⟨o,es,ep,t,ms,g1,g2,g3,g4,g5,g6,g7,g8⟩)
  exact q
 | none=>
  have hk:¬ k ∈ S:=fun z=>by
   obtain ⟨e,he,q⟩:=memk.mpr z
   have:=List.findIdx?_eq_none_iff.mp hr e he
   rw [q] at this
   cases this
  have eS:addI S k=S ++ [k]:=if_neg hk
  rw [eS] at hq
  have p1:=layNew_perm t es ((intKind prog w).hash k) (.int k tk)
  have f1:=layNew_fits t es ((intKind prog w).hash k) (.int k tk)
  have d1:=g5.layNew es ((intKind prog w).hash k) (.int k tk)
  dsimp only
  generalize PySem.layNew t es ((intKind prog w).hash k) (Value.int k tk)=L at p1 f1 d1 ⊢
  obtain ⟨es1,t1,wd,gave⟩:=L
  dsimp only at p1 f1 d1 ⊢
  rw [Array.toList_push] at p1
  have gw:∀ (b:Bool) {s₁:Shared} {R:Unit→Shared→Prop},R () s₁→wpAny (model prog w) A (match b with | true=>rule "set.scan.the-table-gave-way" | false=>pure ()) R E s₁:=fun b=>by
   cases b with
   | true=>exact fun q=>wpAny_rule q
   | false=>exact fun q=>wpAny_pure q
  have l1:ElemsOf (intKind prog w) es1.toList:=(g6.push hkey rfl).perm p1
  obtain ⟨m1,i1,n1⟩:=ints_perm (p1.map (·.2)) (by rw [List.map_append]; exact ints_snoc g7 k tk)
  have n1:m1.Perm (S ++ [k]):=n1.trans (g8.append_right [k])
  have z1:es1.size=S.length + 1:=by
   have:=ints_len i1
   rw [List.length_map,Array.length_toList,n1.length_eq,List.length_append] at this
   exact this
  have b1:es1.size < scanBound:=by omega
  apply wpAny_bind
  refine gw _ ?_
  have tail:wpAny (model prog w) A (do
    storeSet a es1 t1
    if (!wd && t1.tooFull)=true then
     match relayAll t1 es1 (SetTable.grown es1.size) with
     | (es2,t2,gave2)=>do
      (match gave2 with | true=>rule "set.scan.the-table-gave-way" | false=>pure ())
      storeSet a es2 t2
      pure (some true)
    else pure (some true)) (fun r s'=>∃ b,r=some b∧Q b s') E s:=by
   apply wpAny_bind
   obtain ⟨o1,q1⟩:=set_store (prog:=prog) (w:=w) g1 g2 g3 f1 d1 l1 i1 n1
   refine wpAny_storeSet_of g1 g3 ?_ (fits_of_scanBound b1)
   split
   ·have p2:=relayAll_perm t1 es1 (SetTable.grown es1.size)
    have f2:=relayAll_fits t1 es1 (SetTable.grown es1.size)
    have d2:=d1.relay es1 (SetTable.grown es1.size)
    generalize relayAll t1 es1 (SetTable.grown es1.size)=L at p2 f2 d2 ⊢
    obtain ⟨es2,t2,gave2⟩:=L
    dsimp only at p2 f2 d2 ⊢
    have z2:es2.size=es1.size:=by rw [← Array.length_toList,p2.length_eq,Array.length_toList]
    obtain ⟨m2,i2,n2⟩:=ints_perm (p2.map (·.2)) i1
    apply wpAny_bind
    refine gw _ ?_
    apply wpAny_bind
    refine wpAny_storeSet_of o1 rfl ?_ (fits_of_scanBound (by omega))
    obtain ⟨_,q2⟩:=set_store (prog:=prog) (w:=w) o1 g2 rfl f2 d2 (l1.perm p2) i2 (n2.trans n1)
    exact wpAny_pure ⟨true,rfl,hq true _ ((Heap.SameBut.update ..).trans (Heap.SameBut.update ..)) q2⟩
   ·exact wpAny_pure ⟨true,rfl,hq true _ (Heap.SameBut.update ..) q1⟩
  have fin:∀ r s',(∃ b,r=some b∧Q b s')→wpAny (model prog w) A (match r with | some added=>pure added | none=>setAddHashedIn a (Value.int k tk) ((intKind prog w).hash k) 99999) Q E s':=by
   rintro r s' ⟨b,rfl,q⟩
   exact wpAny_pure q
  split
  ·apply wpAny_bind
   refine wpAny_pure ?_
   exact wpAny_mono tail fin fun _ _ q=>q
  ·apply wpAny_bind
   refine wpAny_pure ?_
   exact wpAny_mono tail fin fun _ _ q=>q
end
end L2.Sk
set_option maxRecDepth 100000
namespace L2.Sk
open PySem PySem.Calls PyProof.Rows PySem.Spec
def newS (w:World):Obj:={ cls:=.type "set",dict:=none,data:=.set #[] 0 (.fresh 0 0 (!byT w)) }
theorem good_new (w:World):Good (.fresh 0 0 (!byT w)) (!byT w):=⟨fun i j _ h=>absurd h (Nat.not_lt_zero _),rfl,rfl⟩
section
variable {prog : Program} {w : World} {A : Around} {E : Value → Shared → Prop} {s : Shared} {a : Addr}
theorem set_made {h:Heap} (g:h.get? a=some (newS w)):SetI prog w h a []:=⟨_,#[],0,_,[],g,⟨rfl,rfl,rfl⟩,rfl,rfl,good_new w,(fun e he=>by simp at he),.nil,.nil⟩
theorem set_new1 (v:Value) {Q₁:Value→Shared→Prop} (q:Q₁ (.ref s.heap.objs.size) { s with heap:=s.heap.push (newS w) }):codeAny (model prog w) A (.call (.builtin "set.__new__") ⟨[.type "set",v],[]⟩) (wants Q₁ E) s:=by
 apply codeAny_of_tree
 show wpAny _ A.in1 (do checkBuiltinCall "set.__new__" ⟨[.type "set",v],[]⟩; again (.builtin "set.__new__" ⟨[.type "set",v],[]⟩)) _ _ s
 apply wpAny_bind
 refine wpAny_of_eq (PySem.F.newCall_set_1 v) (wpAny_pure ⟨plainId_quiet PySem.F.plain_set_new _,?_⟩)
 apply codeAny_builtin PySem.F.entry_set_new
 rw [Around.under_plainId PySem.F.plain_set_new _]; unfold Builtin.«set.__new__» Builtin.Frozenset.newClass
 have hsub:=sub_set_self
 obtain ⟨hp,g,d,tk,os⟩:=s
 dsimp only; wp_walk
 apply wpAny_askSetting
 apply wpAny_pure
 dsimp only; simp only [newObj]
 apply wpAny_bind
 apply wpAny_alloc
 exact wpAny_pure (wpAny_pure q)
theorem set_loop {R:Result→Shared→Prop} {I:Addr} {fp wr:List Addr} {n:Nat} {P:Nat→Value→Prop} {St:Nat→Heap→Prop} (W:Walks prog w A.in1 I fp wr n P St) (D:Addr) (hD:D ∉ fp) (val:Nat→Int) (hval:∀ i v,P i v→∃ t,v=.int (val i) t):
  ∀ (m i:Nat) (s:Shared) (S:List Int),n - i=m→i ≤ n→St i s.heap→SetI prog w s.heap D S→S.length + m + 1 < scanBound→
   (∀ h' tk,(∀ b o,b ∉ D :: wr→s.heap.get? b=some o→h'.get? b=some o)→SetI prog w h' D (((List.range n).drop i).foldl (fun S j=>addI S (val j)) S)→R (.ok (.ret .none)) { s with heap:=h',toks:=tk })→
   codeAny (model prog w) A (.builtin "set.update.loop" ⟨[.ref D,.ref I],[]⟩) R s
 | 0,i,s,S,hm,hi,st,hS,hb,hR=>by
  have:i=n:=by omega
  subst this
  refine codeAny_builtin PyProof.Rows.F.entry_set_update_loop ?_
  rw [Around.under_plainId PyProof.Rows.F.plain_set_update_loop _]
  show wpAny _ A.in1 (pyNext (.ref I) >>= _) _ _ s
  apply wpAny_bind
  refine W.done s _ _ st fun h' tk hk=>?_
  show wpAny _ A.in1 (ret Value.none) _ _ _
  refine wpAny_pure (hR h' tk (fun b o hb e=>hk b o (fun z=>hb (List.mem_cons_of_mem _ z)) e) ?_)
  rw [List.drop_of_length_le (by simp)]
  exact hS.to fun o e=>hk D o (fun z=>hD (W.sub _ z)) e
 | m + 1,i,s,S,hm,hi,st,hS,hb,hR=>by
  have hlt:i < n:=by omega
  refine codeAny_builtin PyProof.Rows.F.entry_set_update_loop ?_
  rw [Around.under_plainId PyProof.Rows.F.plain_set_update_loop _]
  show wpAny _ A.in1 (pyNext (.ref I) >>= _) _ _ s
  apply wpAny_bind
  refine W.item i s _ _ hlt st fun v h1 tk hP st1 hk=>?_
  obtain ⟨t,rfl⟩:=hval i v hP
  have hS1:SetI prog w h1 D S:=hS.to fun o e=>hk D o (fun z=>hD (W.sub _ z)) e
  show wpAny _ A.in1 (holding [Value.int (val i) t] (setAdd D (.int (val i) t)) >>= _) _ _ _
  apply wpAny_bind
  apply wpAny_holding
  unfold setAdd
  apply wpAny_holding
  apply wpAny_bind
  refine (intKind prog w).pyHash (k:=val i) (intKind_is _ _ _ _) ?_
  refine set_put (s:={ s with heap:=h1,toks:=tk + 1 }) hS1 (by omega) fun b h2 sb hS2=>?_
  have hlen:(addI S (val i)).length ≤ S.length + 1:=by
   unfold addI
   split
   ·omega
   ·rw [List.length_append]; exact Nat.le_refl _
  refine wpAny_pure ⟨plainId_quiet PyProof.Rows.F.plain_set_update_loop _,?_⟩
  refine set_loop W D hD val hval m (i + 1) _ (addI S (val i)) (by omega) hlt (W.frame _ _ _ st1 fun b hb o e=>?_) hS2 (by omega) fun h3 tk3 k3 hS3=>?_
  ·show h2.get? b=some o
   rw [sb.2 b (fun z:b=D=>hD (z ▸ hb))]
   exact e
  ·refine hR h3 tk3 (fun b o hb e=>k3 b o hb ?_) ?_
   ·show h2.get? b=some o
    rw [sb.2 b (fun z:b=D=>hb (z ▸ List.mem_cons_self ..))]
    exact hk b o (fun z=>hb (List.mem_cons_of_mem _ z)) e
   ·rw [List.drop_eq_getElem_cons (show i < (List.range n).length by simpa using hlt),List.foldl_cons]
    simpa using hS3
end
end L2.Sk
set_option maxRecDepth 100000
namespace L2.Sk
open PySem PySem.Calls PyProof.Rows PySem.Spec
def dedupI (ns:List Int):List Int:=ns.foldl addI []
theorem dedup_range (ns:List Int):(List.range ns.length).foldl (fun S j=>addI S (ns.getD j 0)) []=dedupI ns:=by
 have e:(List.range ns.length).map (fun j=>ns.getD j 0)=ns:=by
  refine List.ext_getElem (by simp) fun i h1 h2=>?_
  simp [h2]
 have:=List.foldl_map (f:=fun j=>ns.getD j 0) (g:=addI) (l:=List.range ns.length) (init:=[])
 rw [e] at this
 exact this.symm
section
variable {prog : Program} {w : World} {A : Around} {E : Value → Shared → Prop} {s : Shared} {a : Addr}
theorem call_set_ints {l:Addr} {items:Array Value} {ns:List Int} {Q:Value→Shared→Prop} (hh:A.handled=none) (hl:s.heap.IsList l items) (hi:IntsAre items.toList ns) (hb:items.size + 1 < scanBound)
  (q:∀ h' tk,SetI prog w h' s.heap.objs.size (dedupI ns)→(∀ b o,s.heap.get? b=some o→h'.get? b=some o)→Q (.ref s.heap.objs.size) { s with heap:=h',toks:=tk }):wpAny (model prog w) A (call (.type "set") [.ref l]) Q E s:=by
 obtain ⟨c,tl,hmro⟩:=PySem.F.called_set.mro
 have hmade:=PySem.F.called_set.made; have hsub:=PySem.F.called_set.sub
 apply wpAny_call
 apply codeAny_of_tree
 show wpAny _ _ (callAny (.type "set") _) _ _ _
 refine wpAny_pure ⟨Code.quiet_builtin _ (by decide +kernel),?_⟩
 apply codeAny_builtin PySem.F.entry_type_call
 rw [Around.under_plain (weight_type_call_type "set" [.ref l] []) rfl]
 have h1:=PySem.F.called_set.notType; have h2:=PySem.F.called_set.canCreate; have hct:=PySem.F.typeCall_set_1 (.ref l)
 repeat (any_goals (first | assumption | wp_step))
 have hlen:items.size=ns.length:=by have:=ints_len hi; rwa [Array.length_toList] at this
 refine codeAny_mono (set_new1 (.ref l) (E:=E) (Q₁:=fun obj s₁=>obj=.ref s.heap.objs.size∧s₁={ s with heap:=s.heap.push (newS w) }) ⟨rfl,rfl⟩) fun r s₁ hr=>?_
 cases r with
 | error e=>exact hr
 | ok fl=>
  cases fl with
  | ret obj=>
   obtain ⟨rfl,rfl⟩:=hr
   have hS:(s.heap.push (newS w)).get? s.heap.objs.size=some (newS w):=Heap.get?_push_size _ rfl
   have hT:Shared.TypeIs { s with heap:=s.heap.push (newS w) } (.ref s.heap.objs.size) "set":=⟨_,hS,rfl⟩
   have hli:=PySem.F.called_set.init.lookup; have hbi:=PySem.F.called_set.init.bind (.ref s.heap.objs.size)
   repeat (any_goals (first | assumption | wp_step))
   refine codeAny_mono (codeAny_call_builtin (R:=wants (fun r s₂=>r=.none∧∃ h' tk,s₂={ s with heap:=h',toks:=tk }∧SetI prog w h' s.heap.objs.size (dedupI ns)∧∀ b o,s.heap.get? b=some o→h'.get? b=some o) E) PySem.F.called_set.init.plain PySem.F.entry_set_init (check_set_init_1 hT ?_)) fun r₂ s₂ hr₂=>?_
   ·obtain ⟨ol,hol,hcl,nl,hdl⟩:=hl
    obtain ⟨ocls,odict,odata,oslots⟩:=ol
    simp only at hcl hdl
    subst hcl
    subst hdl
    have hol2:(s.heap.push (newS w)).get? l=some { cls:=.type "list",dict:=odict,data:=.seq items nl,slots:=oslots }:=Heap.get?_push_of_some _ hol
    have hsls:=PySem.F.sub_list_set; have hslf:=PySem.F.sub_list_frozenset
    have hne:(Value.type "list" == Value.type "dict")=false:=by decide
    have hl1:(s.heap.push (newS w)).IsList l items:=⟨_,hol2,rfl,nl,rfl⟩
    unfold newS at hS hT hol2 hl1 ⊢
    unfold Builtin.«set.__init__» noKeywords Builtin.Frozenset.updateFrom
    generalize hPI:pyIter=PI
    wp_walk
    subst hPI
    refine wpAny_pyIter_list hl1 ?_
    apply wpAny_bind
    apply wpAny_runValue
    have hlS:l < s.heap.objs.size:=Heap.lt_size hol
    have sz:(s.heap.push (newS w)).objs.size=s.heap.objs.size + 1:=Heap.size_push ..
    have hh3:A.in1.in1.in1.handled=none:=by simp [hh]
    have nI:l ≠ (s.heap.push (newS w)).objs.size:=by rw [sz]; exact Nat.ne_of_lt (Nat.lt_succ_of_lt hlS)
    have nD:s.heap.objs.size ∉ [(s.heap.push (newS w)).objs.size,l]:=by
     rw [sz]
     simp only [List.mem_cons,List.not_mem_nil,or_false,not_or]
     exact ⟨Nat.ne_of_lt (Nat.lt_succ_self _),Nat.ne_of_gt hlS⟩
    refine set_loop (Walks.list hh3 _ l nI items) s.heap.objs.size nD (fun i=>ns.getD i 0) (fun i v hv=>IntsAre.int_at hi i v (by rw [Array.getElem?_toList]; exact hv)) items.size 0 _ [] (by omega) (Nat.zero_le _) ⟨⟨_,Heap.get?_push_size _ rfl,rfl,rfl⟩,hl1.push _⟩ (set_made (Heap.get?_push_of_some _ hS)) (by simp; omega) fun h' tk hk hS'=>?_
    apply wpAny_pure
    show wpAny _ _ (ret Value.none) _ _ _
    rw [List.drop_zero,hlen,dedup_range] at hS'
    refine wpAny_pure ⟨rfl,h',tk,rfl,hS',fun b o e=>hk b o ?_ (Heap.get?_push_of_some _ (Heap.get?_push_of_some _ e))⟩
    have hb:=Heap.lt_size e
    simp only [List.mem_cons,List.not_mem_nil,or_false,not_or]
    refine ⟨Nat.ne_of_lt hb,fun z=>?_⟩
    rw [z] at hb
    exact absurd hb (by rw [show (Heap.push s.heap _).objs.size=s.heap.objs.size + 1 from Heap.size_push ..]; exact Nat.not_lt.mpr (Nat.le_succ _))
   ·cases r₂ with
    | error e=>exact hr₂
    | ok fl₂=>
     cases fl₂ with
     | ret r=>
      obtain ⟨rfl,h',tk,rfl,hS',hk'⟩:=hr₂
      repeat (any_goals (first | assumption | wp_step))
      exact q _ _ hS' hk'
     | _=>exact hr₂.elim
  | _=>exact hr.elim
theorem call_len_ints {S:List Int} {Q:Value→Shared→Prop} (h:SetI prog w s.heap a S) (hb:S.length < scanBound) (q:∀ t tk,Q (.int (S.length:Nat) t) { s with toks:=tk }):wpAny (model prog w) A (call (.builtin "len") [.ref a]) Q E s:=by
 obtain ⟨o,es,ep,t,ms,g1,g2,g3,g4,g5,g6,g7,g8⟩:=h
 have e:es.size=S.length:=by have:=ints_len g7; rwa [List.length_map,Array.length_toList,g8.length_eq] at this
 have:scanBound=4096:=rfl
 refine call_len_set g1 g2 g3 g4 (by omega) ?_
 rw [e]
 exact q _ _
end
end L2.Sk
set_option maxRecDepth 100000
namespace L2.Sk
open PySem PySem.Calls PyProof.Rows PySem.Spec
theorem si_entry:entryFor table "set.__iter__"=some Builtin.«frozenset.__iter__»:=entryFor_alias (id':="frozenset.__iter__") (by kernel_rfl) rfl (by decide +kernel) (by kernel_rfl)
theorem si_next:Slot "set_iterator" "__next__" "set_iterator.__next__":=.of (owner:="set_iterator") (n:="__next__") (by rw [typeLookup_type,builtinLookup_eq_fast]; kernel_rfl) (by decide +kernel) (by decide +kernel) (by decide +kernel) (by first | exact .inl (by decide +kernel) | exact .inr (by decide +kernel)) (by rw [isSubtype_type]; kernel_rfl)
theorem si_self:Slot "set_iterator" "__iter__" "set_iterator.__iter__":=.of (owner:="set_iterator") (n:="__iter__") (by rw [typeLookup_type,builtinLookup_eq_fast]; kernel_rfl) (by decide +kernel) (by decide +kernel) (by decide +kernel) (by first | exact .inl (by decide +kernel) | exact .inr (by decide +kernel)) (by rw [isSubtype_type]; kernel_rfl)
theorem si_entry_next:entryFor table "set_iterator.__next__"=some Builtin.«set_iterator.__next__»:=entryFor_of_tree (by kernel_rfl)
theorem si_owner:Manifest.owners.lookup (String.ofList "set_iterator".toList.reverse.reverse)=some Manifest.sig_set_iterator:=by kernel_rfl
theorem si_args_next (a:Value):argsOk "set_iterator.__next__" ⟨[a],[]⟩:=by
 unfold argsOk
 rw [signature?_of (id:="set_iterator.__next__") (n:=['_','_','t','x','e','n','_','_']) (o:=['r','o','t','a','r','e','t','i','_','t','e','s']) (by kernel_rfl) si_owner]
 kernel_rfl
theorem si_args_iter (a:Value):argsOk "set_iterator.__iter__" ⟨[a],[]⟩:=by
 unfold argsOk
 rw [signature?_of (id:="set_iterator.__iter__") (n:=['_','_','r','e','t','i','_','_']) (o:=['r','o','t','a','r','e','t','i','_','t','e','s']) (by kernel_rfl) si_owner]
 kernel_rfl
theorem si_entry_self:entryFor table "set_iterator.__iter__"=some Builtin.«dict_keyiterator.__iter__»:=entryFor_alias (id':="dict_keyiterator.__iter__") (by kernel_rfl) rfl (by decide +kernel) (by kernel_rfl)
theorem erase_perm {α:Type}:∀ (l:List α) (k:Nat) (h:k < l.length),(l[k] :: l.eraseIdx k).Perm l
 | x :: xs,0,_=>.refl _
 | x :: xs,k + 1,h=>by
  have h:k < xs.length:=by simpa using h
  show (xs[k] :: x :: xs.eraseIdx k).Perm (x :: xs)
  exact (List.Perm.swap ..).trans ((erase_perm xs k h).cons x)
section
variable {prog : Program} {w : World} {A : Around} {E : Value → Shared → Prop} {s : Shared} {a : Addr}
theorem wp_choose {src:Source} {n:Nat} {Q:Nat→Shared→Prop} (hn:n ≠ 0) (q:∀ k d,k < n→Q k { s with drawn:=d }):wpAny (model prog w) A (choose src n) Q E s:=fun Γ p hΓ=>⟨hn,q _ _ (Nat.mod_lt _ (Nat.pos_of_ne_zero hn))⟩
theorem wp_draw {α:Type}:∀ (n:Nat) (xs:List α) (s:Shared) (Q:List α→Shared→Prop),xs.length=n→(∀ ys d,ys.Perm xs→Q ys { s with drawn:=d })→wpAny (model prog w) A (drawOrder n xs) Q E s
 | 0,xs,s,Q,hl,q=>by
  obtain rfl:xs=[]:=List.length_eq_zero_iff.mp hl
  unfold drawOrder
  exact wpAny_pure (q [] s.drawn .nil)
 | n + 1,[],s,Q,hl,q=>by cases hl
 | n + 1,x :: xs,s,Q,hl,q=>by
  unfold drawOrder
  apply wpAny_bind
  refine wp_choose (by simp) fun k d hk=>?_
  rw [List.getElem?_eq_getElem hk]
  dsimp only
  apply wpAny_bind
  refine wp_draw n _ _ _ (by rw [List.length_eraseIdx_of_lt hk]; omega) fun ys d2 hp=>?_
  refine wpAny_pure ?_
  have hp2:((x :: xs)[k] :: ys).Perm (x :: xs):=(hp.cons _).trans (erase_perm _ _ hk)
  exact q _ d2 hp2
end
theorem pick_go {α:Type} (next:Nat→Nat):∀ (f k:Nat) (left:List α) (out:Array α),left.length=f→(pickOrder.go next f k left out).toList.Perm (out.toList ++ left)
 | 0,k,left,out,hl=>by
  obtain rfl:left=[]:=List.length_eq_zero_iff.mp hl
  unfold pickOrder.go
  rw [List.append_nil]
 | f + 1,k,left,out,hl=>by
  have hk:next k % left.length < left.length:=Nat.mod_lt _ (by omega)
  unfold pickOrder.go
  rw [List.getElem?_eq_getElem hk]
  dsimp only
  have:=pick_go next f (k + 1) (left.eraseIdx (next k % left.length)) (out.push left[next k % left.length]) (by rw [List.length_eraseIdx_of_lt hk]; omega)
  refine this.trans ?_
  rw [Array.toList_push,List.append_assoc]
  exact List.Perm.append_left _ (erase_perm _ _ hk)
theorem pick_perm {α:Type} (next:Nat→Nat) (xs:Array α):(pickOrder next xs).toList.Perm xs.toList:=by
 unfold pickOrder
 simpa using pick_go next xs.size 0 xs.toList #[] (by simp)
def IsSI (h:Heap) (it a:Addr) (first:Value) (i n ep:Nat):Prop:=∃ o,h.get? it=some o∧o.cls=.type "set_iterator"∧o.data=.fields #[first,rawInt i,.ref a,rawInt n,rawInt ep]
def RawS (h:Heap) (a:Addr) (es:Array (Int × Value)) (ep:Nat) (t:SetTable):Prop:=∃ o,h.get? a=some o∧o.ExactSet∧o.data=.set es ep t
theorem IsSI.to {h h':Heap} {it a:Addr} {f:Value} {i n ep:Nat} (x:IsSI h it a f i n ep) (k:∀ o,h.get? it=some o→h'.get? it=some o):IsSI h' it a f i n ep:=let ⟨o,g,r⟩:=x; ⟨o,k o g,r⟩
theorem RawS.to {h h':Heap} {a:Addr} {es:Array (Int × Value)} {ep:Nat} {t:SetTable} (x:RawS h a es ep t) (k:∀ o,h.get? a=some o→h'.get? a=some o):RawS h' a es ep t:=let ⟨o,g,r⟩:=x; ⟨o,k o g,r⟩
section
variable {prog : Program} {w : World} {A : Around} {E : Value → Shared → Prop} {s : Shared} {a it : Addr} {es : Array (Int × Value)} {i ep slot : Nat} {t : SetTable}
theorem si_step {v:Value} {nx:Nat} {Q:Option Value→Shared→Prop} (I:IsSI s.heap it a (rawInt slot) i es.size ep) (x:RawS s.heap a es ep t) (hf:t.fits es.size=true)
  (hn:∀ (A:Around) (E:Value→Shared→Prop) (R:Option (Value × Nat)→Shared→Prop),R (some (v,nx)) s→wpAny (model prog w) A (setNext a slot i ep) R E s)
  (q:∀ h',IsSI h' it a (rawInt nx) (i + 1) es.size ep→Heap.SameBut it s.heap h'→Q (some v) { s with heap:=h' }):wpAny (model prog w) A (pyNext (.ref it)) Q E s:=by
 obtain ⟨u,u1,u2,u3⟩:=id I
 have T:s.TypeIs (.ref it) "set_iterator":=⟨u,u1,u2⟩
 obtain ⟨o,g1,g2,g3⟩:=x
 unfold pyNext
 apply wpAny_bind
 apply wpAny_attempt
 refine wpAny_callSpecial?_slot (name:=Str.ofString "__next__") T si_next (wpAny_call_entry si_next T si_entry_next ?_ (si_args_next _))
 unfold Builtin.«set_iterator.__next__»
 apply wpAny_bind
 refine wpAny_pure ?_
 apply wpAny_bind
 refine wpAny_fieldsOf u1 u3 ?_
 show wpAny _ _ (setEntries a >>= _) _ _ s
 apply wpAny_bind
 refine wpAny_setEntries_of g1 g3 hf ?_
 dsimp only
 rw [if_neg (by simp)]
 show wpAny _ _ (setNext a (slot:Int).toNat (i:Int).toNat (ep:Int).toNat >>= _) _ _ s
 rw [Int.toNat_natCast,Int.toNat_natCast,Int.toNat_natCast]
 apply wpAny_bind
 refine hn _ _ _ ?_
 dsimp only
 apply wpAny_bind
 refine wpAny_setField u1 u3 (by simp) ?_
 have J1:(s.heap.update it (Obj.mapFields (·.setIfInBounds 0 (rawInt (nx:Int))))).get? it=some _:=Heap.get?_update_self _ u1 (Obj.isFreed_of_fields (Obj.data_mapFields u3 _))
 have d1:=Obj.data_mapFields u3 (·.setIfInBounds 0 (rawInt (nx:Int)))
 apply wpAny_bind
 refine wpAny_setField J1 d1 (by simp) ?_
 have J2:=Heap.get?_update_self (Obj.mapFields (·.setIfInBounds 1 (rawInt ((i:Int) + 1)))) J1 (Obj.isFreed_of_fields (Obj.data_mapFields d1 _))
 refine wpAny_pure ⟨_,rfl,wpAny_pure (q _ ⟨_,J2,?_,?_⟩ ((Heap.SameBut.update ..).trans (Heap.SameBut.update ..)))⟩
 ·rw [Obj.cls_mapFields,Obj.cls_mapFields]; exact u2
 ·rw [Obj.data_mapFields d1]; simp [rawInt]
theorem si_stop {Q:Option Value→Shared→Prop} {h:Heap} (hh:A.handled=none) (q:∀ h',Heap.ExtBut it h h'→Q none { s with heap:=h' }):
  wpAny (model prog w) A.in1 (do raiseNew (← newExc (.type "StopIteration") []):Sem PySem.Fin) (fun fin s'=>∃ v,fin=.done (.ret v)∧wpAny (model prog w) A (match (Except.ok (some v):Except Value (Option Value)) with
   | .ok (some v)=>pure (some v)
   | .ok none=>unsupported "iter:the-iterator's-class-has-lost-its-__next__-amid-the-walk"
   | .error e=>do if ← isInstance e (.type "StopIteration") then pure none else throw e) Q E s')
   (fun e s'=>wpAny (model prog w) A (match (Except.error e:Except Value (Option Value)) with
   | .ok (some v)=>pure (some v)
   | .ok none=>unsupported "iter:the-iterator's-class-has-lost-its-__next__-amid-the-walk"
   | .error e=>do if ← isInstance e (.type "StopIteration") then pure none else throw e) Q E s') { s with heap:=h }:=by
 apply wpAny_bind
 simp only [newExc,newTuple]
 apply wpAny_bind
 refine wpAny_newObj_type ?_ (by size_fits)
 refine wpAny_bind (m:=firstArgMember _ _) (wpAny_of_eq (a:=Value.none) (by first | rfl | (simp only [firstArgMember]; rfl)) (wpAny_newObj_type ?_ (by size_fits)))
 simp only [raiseNew]
 apply wpAny_bind
 apply wpAny_handled
 rw [show A.in1.handled=none from hh]
 refine wpAny_throw ?_
 apply wpAny_bind
 refine wpAny_isInstance (T:="StopIteration") (b:=true) ⟨_,Heap.get?_push_size _ rfl,rfl⟩ isSubtype_stop ?_
 refine wpAny_pure (q _ ?_)
 have e0:Heap.ExtBut it h h:=fun b o _ e=>e
 exact (e0.push _).push _
theorem si_end {Q:Option Value→Shared→Prop} (hh:A.handled=none) (I:IsSI s.heap it a (rawInt slot) i es.size ep) (x:RawS s.heap a es ep t) (hf:t.fits es.size=true)
  (hn:∀ (A:Around) (E:Value→Shared→Prop) (R:Option (Value × Nat)→Shared→Prop),R none s→wpAny (model prog w) A (setNext a slot i ep) R E s)
  (q:∀ h',Heap.ExtBut it s.heap h'→Q none { s with heap:=h' }):wpAny (model prog w) A (pyNext (.ref it)) Q E s:=by
 obtain ⟨u,u1,u2,u3⟩:=id I
 have T:s.TypeIs (.ref it) "set_iterator":=⟨u,u1,u2⟩
 obtain ⟨o,g1,g2,g3⟩:=x
 unfold pyNext
 apply wpAny_bind
 apply wpAny_attempt
 refine wpAny_callSpecial?_slot (name:=Str.ofString "__next__") T si_next (wpAny_call_entry si_next T si_entry_next ?_ (si_args_next _))
 unfold Builtin.«set_iterator.__next__»
 apply wpAny_bind
 refine wpAny_pure ?_
 apply wpAny_bind
 refine wpAny_fieldsOf u1 u3 ?_
 show wpAny _ _ (setEntries a >>= _) _ _ s
 apply wpAny_bind
 refine wpAny_setEntries_of g1 g3 hf ?_
 dsimp only
 rw [if_neg (by simp)]
 show wpAny _ _ (setNext a (slot:Int).toNat (i:Int).toNat (ep:Int).toNat >>= _) _ _ s
 rw [Int.toNat_natCast,Int.toNat_natCast,Int.toNat_natCast]
 apply wpAny_bind
 refine hn _ _ _ ?_
 dsimp only
 apply wpAny_bind
 refine wpAny_setField u1 u3 (by simp) ?_
 exact si_stop hh fun h' e=>q h' fun b o hb g=>e b o hb ((Heap.SameBut.update s.heap it _).extBut b o hb g)
theorem si_stepT {v:Value} {tp:Addr} {ps:List Nat} {p:Nat} {Q:Option Value→Shared→Prop} (I:IsSI s.heap it a (.ref tp) i es.size ep) (x:RawS s.heap a es ep t) (hf:t.fits es.size=true)
  (ht:∃ o c,s.heap.get? tp=some o∧o.data=.seq (ps.map fun (j:Nat)=>rawInt j).toArray c) (hp:ps[i]?=some p) (hv:(es[p]?).map (·.2)=some v)
  (q:∀ h',IsSI h' it a (.ref tp) (i + 1) es.size ep→Heap.SameBut it s.heap h'→Q (some v) { s with heap:=h' }):wpAny (model prog w) A (pyNext (.ref it)) Q E s:=by
 obtain ⟨u,u1,u2,u3⟩:=id I
 have T:s.TypeIs (.ref it) "set_iterator":=⟨u,u1,u2⟩
 obtain ⟨o,g1,g2,g3⟩:=x
 obtain ⟨ot,ct,t1,t2⟩:=ht
 obtain ⟨e,he,rfl⟩:=Option.map_eq_some_iff.mp hv
 unfold pyNext
 apply wpAny_bind
 apply wpAny_attempt
 refine wpAny_callSpecial?_slot (name:=Str.ofString "__next__") T si_next (wpAny_call_entry si_next T si_entry_next ?_ (si_args_next _))
 unfold Builtin.«set_iterator.__next__»
 apply wpAny_bind
 refine wpAny_pure ?_
 apply wpAny_bind
 refine wpAny_fieldsOf u1 u3 ?_
 show wpAny _ _ (setEntries a >>= _) _ _ s
 apply wpAny_bind
 refine wpAny_setEntries_of g1 g3 hf ?_
 dsimp only
 rw [if_neg (by simp)]
 show wpAny _ _ (seqItems? (.ref tp) >>= _) _ _ s
 apply wpAny_bind
 refine wpAny_seqItems t1 t2 ?_
 dsimp only
 have ep':((ps.map fun (j:Nat)=>rawInt j).toArray)[(i:Int).toNat]?=some (.int (p:Int) 0):=by
  rw [Int.toNat_natCast]
  simp [hp,rawInt]
 rw [ep']
 dsimp only
 apply wpAny_bind
 unfold setNextDrawn
 apply wpAny_bind
 refine wpAny_setState_of g1 g3 hf ?_
 dsimp only
 rw [if_neg (by simp),Int.toNat_natCast,he]
 refine wpAny_pure ?_
 apply wpAny_bind
 refine wpAny_setField u1 u3 (by simp) ?_
 have J2:=Heap.get?_update_self (Obj.mapFields (·.setIfInBounds 1 (rawInt ((i:Int) + 1)))) u1 (Obj.isFreed_of_fields (Obj.data_mapFields u3 _))
 refine wpAny_pure ⟨_,rfl,wpAny_pure (q _ ⟨_,J2,?_,?_⟩ (Heap.SameBut.update ..))⟩
 ·rw [Obj.cls_mapFields]; exact u2
 ·rw [Obj.data_mapFields u3]; simp [rawInt]
theorem si_endT {tp:Addr} {ps:List Nat} {Q:Option Value→Shared→Prop} (hh:A.handled=none) (I:IsSI s.heap it a (.ref tp) i es.size ep) (x:RawS s.heap a es ep t) (hf:t.fits es.size=true)
  (ht:∃ o c,s.heap.get? tp=some o∧o.data=.seq (ps.map fun (j:Nat)=>rawInt j).toArray c) (hp:ps.length ≤ i)
  (q:∀ h',Heap.ExtBut it s.heap h'→Q none { s with heap:=h' }):wpAny (model prog w) A (pyNext (.ref it)) Q E s:=by
 obtain ⟨u,u1,u2,u3⟩:=id I
 have T:s.TypeIs (.ref it) "set_iterator":=⟨u,u1,u2⟩
 obtain ⟨o,g1,g2,g3⟩:=x
 obtain ⟨ot,ct,t1,t2⟩:=ht
 unfold pyNext
 apply wpAny_bind
 apply wpAny_attempt
 refine wpAny_callSpecial?_slot (name:=Str.ofString "__next__") T si_next (wpAny_call_entry si_next T si_entry_next ?_ (si_args_next _))
 unfold Builtin.«set_iterator.__next__»
 apply wpAny_bind
 refine wpAny_pure ?_
 apply wpAny_bind
 refine wpAny_fieldsOf u1 u3 ?_
 show wpAny _ _ (setEntries a >>= _) _ _ s
 apply wpAny_bind
 refine wpAny_setEntries_of g1 g3 hf ?_
 dsimp only
 rw [if_neg (by simp)]
 show wpAny _ _ (seqItems? (.ref tp) >>= _) _ _ s
 apply wpAny_bind
 refine wpAny_seqItems t1 t2 ?_
 dsimp only
 have ep':((ps.map fun (j:Nat)=>rawInt j).toArray)[(i:Int).toNat]?=none:=by
  rw [Int.toNat_natCast]
  simp [hp]
 rw [ep']
 dsimp only
 apply wpAny_bind
 refine wpAny_setField u1 u3 (by simp) ?_
 have J1:(s.heap.update it (Obj.mapFields (·.setIfInBounds 0 (rawInt 0)))).get? it=some _:=Heap.get?_update_self _ u1 (Obj.isFreed_of_fields (Obj.data_mapFields u3 _))
 have d1:=Obj.data_mapFields u3 (·.setIfInBounds 0 (rawInt 0))
 apply wpAny_bind
 refine wpAny_setField J1 d1 (by simp) ?_
 exact si_stop hh fun h' e=>q h' fun b o hb g=>e b o hb ((Heap.SameBut.update _ it _).extBut b o hb ((Heap.SameBut.update s.heap it _).extBut b o hb g))
end
end L2.Sk
set_option maxRecDepth 100000
namespace L2.Sk
open PySem PySem.Calls PyProof.Rows PySem.Spec
section
variable {prog : Program} {w : World} {A : Around} {E : Value → Shared → Prop} {s : Shared} {a it : Addr} {es : Array (Int × Value)} {i ep slot : Nat} {t : SetTable}
def slotC (t:SetTable) (i:Nat):Nat:=if i=0 then 0 else t.place.getD (i - 1) 0 + 1
theorem below_slot (hr:Rise t.place) {n:Nat} (hs:t.place.size=n) (hi:i ≤ n):SetTable.below t.place (slotC t i)=i:=by
 obtain ⟨h1,h2,h3⟩:=below_ok hr (slotC t i)
 generalize hb:SetTable.below t.place (slotC t i)=b at h1 h2 h3
 unfold slotC at h2 h3
 by_cases h0:i=0
 ·rw [if_pos h0] at h2
  by_cases c:b=0
  ·omega
  ·exact absurd (h2 0 (by omega)) (Nat.not_lt_zero _)
 ·rw [if_neg h0] at h2 h3
  by_cases c1:b < i
  ·have:=h3 (i - 1) (by omega) (by omega)
   omega
  ·by_cases c2:i < b
   ·have k1:=h2 i c2
    have k2:=hr (i - 1) i (by omega) (by omega)
    omega
   ·omega
theorem set_nextC (x:RawS s.heap a es ep t) (hf:t.fits es.size=true) (hb:byT w=false) (hd:(!t.plain && decide (es.size > 1))=false) (hg:Good t true) (hi:i ≤ es.size) {R:Option (Value × Nat)→Shared→Prop}
  (q:R ((es[i]?).map fun e=>(e.2,slotC t (i + 1))) s):wpAny (model prog w) A (setNext a (slotC t i) i ep) R E s:=by
 obtain ⟨o,g1,g2,g3⟩:=x
 have hs:t.place.size=es.size:=by
  simp only [SetTable.fits,Bool.and_eq_true,beq_iff_eq] at hf
  exact hf.1
 unfold setNext
 apply wpAny_bind
 refine wpAny_setState_of g1 g3 hf ?_
 dsimp only
 apply wpAny_bind
 unfold setsByText
 apply wpAny_bind
 apply wpAny_askSetting
 refine wpAny_pure ?_
 rw [show (model prog w).w.params.followText "set-order"=false from hb,if_neg (by decide)]
 refine wpAny_ite_split (fun z=>?_) (fun _=>?_)
 ·have z:(!t.plain && decide (es.size > 1))=true:=z
  rw [hd] at z
  cases z
 apply wpAny_bind
 refine wpAny_ite_split (fun z=>?_) (fun _=>wpAny_pure ?_)
 ·have z:(!t.led && !es.isEmpty)=true:=z
  rw [hg.led] at z
  cases z
 rw [below_slot hg.rise hs hi]
 refine wpAny_pure ?_
 cases he:es[i]? with
 | none=>rw [he] at q; exact q
 | some e=>
  rw [he] at q
  have hl:i < t.place.size:=by rw [hs]; exact (Array.getElem?_eq_some_iff.mp he).1
  rw [Array.getElem?_eq_getElem hl]
  have:slotC t (i + 1)=t.place[i] + 1:=by
   unfold slotC
   rw [if_neg (by omega),Nat.add_sub_cancel]
   simp [Array.getD,hl]
  rw [this] at q
  exact q
theorem set_nextA (x:RawS s.heap a es ep t) (hf:t.fits es.size=true) (hb:byT w=true) {R:Option (Value × Nat)→Shared→Prop}
  (q:R (((pickOrder (w.params.setOrder a ep) es)[i]?).map fun e=>(e.2,slot)) s):wpAny (model prog w) A (setNext a slot i ep) R E s:=by
 obtain ⟨o,g1,g2,g3⟩:=x
 unfold setNext
 apply wpAny_bind
 refine wpAny_setState_of g1 g3 hf ?_
 dsimp only
 apply wpAny_bind
 unfold setsByText
 apply wpAny_bind
 apply wpAny_askSetting
 refine wpAny_pure ?_
 rw [show (model prog w).w.params.followText "set-order"=true from hb,if_pos rfl,if_neg (by simp)]
 apply wpAny_bind
 unfold setWalk
 apply wpAny_bind
 refine wpAny_setState_of g1 g3 hf ?_
 dsimp only
 apply wpAny_bind
 unfold setsByText
 apply wpAny_bind
 apply wpAny_askSetting
 refine wpAny_pure ?_
 rw [show (model prog w).w.params.followText "set-order"=true from hb,if_pos rfl]
 apply wpAny_bind
 apply wpAny_askSetting
 exact wpAny_pure (wpAny_pure q)
theorem items_eq {P:Nat→Value→Prop} {acc:Array Value} {n:Nat} (h:ItemsOf P acc n) {L:List Value} (hl:L.length=n) (hp:∀ j v,P j v→L[j]?=some v):acc.toList=L:=by
 refine List.ext_getElem? fun j=>?_
 by_cases c:j < acc.size
 ·have:=hp j acc[j] (h.2 j _ (Array.getElem?_eq_getElem c))
  rw [this,Array.getElem?_toList,Array.getElem?_eq_getElem c]
 ·rw [List.getElem?_eq_none (by rw [Array.length_toList]; omega),List.getElem?_eq_none (by rw [hl,← h.1]; omega)]
theorem si_again {Q:Value→Shared→Prop} {f:Value} {n:Nat} (I:IsSI s.heap it a f i n ep) (q:Q (.ref it) s):wpAny (model prog w) A (pyIter (.ref it)) Q E s:=by
 obtain ⟨u,u1,u2,u3⟩:=id I
 have T:s.TypeIs (.ref it) "set_iterator":=⟨u,u1,u2⟩
 refine wpAny_pyIter_slot T si_self (wpAny_call_entry si_self T si_entry_self ?_ (si_args_iter _))
 show wpAny _ _ (ret (.ref it)) _ _ s
 exact wpAny_pure ⟨_,rfl,"set_iterator",_,T,si_next.lookup,q⟩
theorem walkC (hh:A.handled=none) (ne:a ≠ it) (hf:t.fits es.size=true) (hb:byT w=false) (hd:(!t.plain && decide (es.size > 1))=false) (hg:Good t true):
  Walks prog w A it [it,a] [it] es.size (fun i v=>(es[i]?).map (·.2)=some v) (fun i h=>i ≤ es.size∧IsSI h it a (rawInt (slotC t i)) i es.size ep∧RawS h a es ep t) where
 sub:=fun b hb=>by simp at hb; simp [hb]
 frame:=fun _ _ _ st hk=>⟨st.1,st.2.1.to fun o e=>hk it (by simp) o e,st.2.2.to fun o e=>hk a (by simp) o e⟩
 item:=fun i s Q E hi st hQ=>by
  have he:es[i]?=some es[i]:=Array.getElem?_eq_getElem hi
  refine si_step (v:=es[i].2) (nx:=slotC t (i + 1)) st.2.1 st.2.2 hf (fun A E R q=>set_nextC st.2.2 hf hb hd hg st.1 (by rw [he]; exact q)) fun h' J sb=>?_
  exact hQ _ h' s.toks (by rw [he]; rfl) ⟨hi,J,st.2.2.to fun o e=>sb.extBut a o ne e⟩ fun b o hb e=>sb.extBut b o (fun z=>hb (by simp [z])) e
 done:=fun s Q E st hQ=>by
  refine si_end hh st.2.1 st.2.2 hf (fun A E R q=>set_nextC st.2.2 hf hb hd hg st.1 (by rw [Array.getElem?_eq_none (Nat.le_refl _)]; exact q)) fun h' eb=>?_
  exact hQ h' s.toks fun b o hb e=>eb b o (fun z=>hb (by simp [z])) e
 self:=fun _ _ _ _ st hQ=>si_again st.2.1 hQ
theorem walkA (hh:A.handled=none) (ne:a ≠ it) (hf:t.fits es.size=true) (hb:byT w=true):
  Walks prog w A it [it,a] [it] es.size (fun i v=>((pickOrder (w.params.setOrder a ep) es)[i]?).map (·.2)=some v) (fun i h=>IsSI h it a (rawInt ((0:Nat):Int)) i es.size ep∧RawS h a es ep t) where
 sub:=fun b hb=>by simp at hb; simp [hb]
 frame:=fun _ _ _ st hk=>⟨st.1.to fun o e=>hk it (by simp) o e,st.2.to fun o e=>hk a (by simp) o e⟩
 item:=fun i s Q E hi st hQ=>by
  have hs:(pickOrder (w.params.setOrder a ep) es).size=es.size:=by
   have:=(pick_perm (w.params.setOrder a ep) es).length_eq
   rwa [Array.length_toList,Array.length_toList] at this
  have he:=Array.getElem?_eq_getElem (xs:=pickOrder (w.params.setOrder a ep) es) (i:=i) (by omega)
  refine si_step (v:=((pickOrder (w.params.setOrder a ep) es)[i]'(by omega)).2) (nx:=0) st.1 st.2 hf (fun A E R q=>set_nextA st.2 hf hb (by rw [he]; exact q)) fun h' J sb=>?_
  exact hQ _ h' s.toks (by rw [he]; rfl) ⟨J,st.2.to fun o e=>sb.extBut a o ne e⟩ fun b o hb e=>sb.extBut b o (fun z=>hb (by simp [z])) e
 done:=fun s Q E st hQ=>by
  have hs:(pickOrder (w.params.setOrder a ep) es).size=es.size:=by
   have:=(pick_perm (w.params.setOrder a ep) es).length_eq
   rwa [Array.length_toList,Array.length_toList] at this
  refine si_end hh st.1 st.2 hf (fun A E R q=>set_nextA st.2 hf hb (by rw [Array.getElem?_eq_none (by omega)]; exact q)) fun h' eb=>?_
  exact hQ h' s.toks fun b o hb e=>eb b o (fun z=>hb (by simp [z])) e
 self:=fun _ _ _ _ st hQ=>si_again st.1 hQ
theorem walkB (hh:A.handled=none) {tp:Addr} {ps:List Nat} (ne:a ≠ it) (nt:tp ≠ it) (hf:t.fits es.size=true) (hp:ps.Perm (List.range es.size)):
  Walks prog w A it [it,tp,a] [it] es.size (fun i v=>∃ p,ps[i]?=some p∧(es[p]?).map (·.2)=some v) (fun i h=>IsSI h it a (.ref tp) i es.size ep∧RawS h a es ep t∧∃ o c,h.get? tp=some o∧o.data=.seq (ps.map fun (j:Nat)=>rawInt j).toArray c) where
 sub:=fun b hb=>by simp at hb; simp [hb]
 frame:=fun _ _ _ st hk=>⟨st.1.to fun o e=>hk it (by simp) o e,st.2.1.to fun o e=>hk a (by simp) o e,let ⟨o,c,e1,e2⟩:=st.2.2; ⟨o,c,hk tp (by simp) o e1,e2⟩⟩
 item:=fun i s Q E hi st hQ=>by
  have hl:ps.length=es.size:=by have:=hp.length_eq; rwa [List.length_range] at this
  have h1:ps[i]?=some ps[i]:=List.getElem?_eq_getElem (by omega)
  have h2:ps[i] < es.size:=List.mem_range.mp (hp.mem_iff.mp (List.getElem_mem _))
  have h3:(es[ps[i]]?).map (·.2)=some (es[ps[i]].2):=by rw [Array.getElem?_eq_getElem h2]; rfl
  refine si_stepT st.1 st.2.1 hf st.2.2 h1 h3 fun h' J sb=>?_
  obtain ⟨o,c,e1,e2⟩:=st.2.2
  exact hQ _ h' s.toks ⟨_,h1,h3⟩ ⟨J,st.2.1.to fun o e=>sb.extBut a o ne e,o,c,sb.extBut tp o nt e1,e2⟩ fun b o hb e=>sb.extBut b o (fun z=>hb (by simp [z])) e
 done:=fun s Q E st hQ=>by
  have hl:ps.length=es.size:=by have:=hp.length_eq; rwa [List.length_range] at this
  refine si_endT hh st.1 st.2.1 hf st.2.2 (by omega) fun h' eb=>?_
  exact hQ h' s.toks fun b o hb e=>eb b o (fun z=>hb (by simp [z])) e
 self:=fun _ _ _ _ st hQ=>si_again st.1 hQ
end
end L2.Sk
set_option maxRecDepth 100000
namespace L2.Sk
open PySem PySem.Calls PyProof.Rows PySem.Spec PySem.W
section
variable {prog : Program} {w : World} {A : Around} {E : Value → Shared → Prop} {s : Shared} {a : Addr} {S : List Int}
theorem SetI.ty (h:SetI prog w s.heap a S):s.TypeIs (.ref a) "set":=let ⟨o,es,ep,t,ms,g1,g2,r⟩:=h; ⟨o,g1,g2.1⟩
structure Trip (prog : Program) (w : World) (A : Around) (h : Heap) (a : Addr) (S : List Int) (I : Addr) (h' : Heap) (fp : List Addr) (P : Nat → Value → Prop) (St : Nat → Heap → Prop) (n : Nat) : Prop where
  walk : Walks prog w A I fp [I] n P St
  len : n = S.length
  st : St 0 h'
  fpo : ∀ b ∈ fp, b = a ∨ h.objs.size ≤ b
  new : h.objs.size ≤ I
  keep : ∀ b o, h.get? b = some o → h'.get? b = some o
  all : ∀ acc : Array Value, ItemsOf P acc n → ∃ ms, IntsAre acc.toList ms ∧ ms.Perm S
theorem set_iter {Q:Value→Shared→Prop} (hh:A.handled=none) (h:SetI prog w s.heap a S) (hb:S.length < scanBound) (q:∀ I h' d fp P St n,Trip prog w A s.heap a S I h' fp P St n→Q (.ref I) { s with heap:=h',drawn:=d }):wpAny (model prog w) A (pyIter (.ref a)) Q E s:=by
 have T:=h.ty
 obtain ⟨o,es,ep,t,ms,g1,g2,g3,g4,g5,g6,g7,g8⟩:=h
 have hl:es.size=S.length:=by have:=ints_len g7; rwa [List.length_map,Array.length_toList,g8.length_eq] at this
 have hlt:=Heap.lt_size g1
 refine wpAny_pyIter_slot T PySem.F.slot_set_iter (wpAny_call_entry PySem.F.slot_set_iter T si_entry ?_ (PySem.F.args_set_iter_1 _))
 unfold Builtin.«frozenset.__iter__» Builtin.Frozenset.slot0 slotArgs
 simp only [List.isEmpty_nil,Bool.not_true,Bool.false_eq_true,↓reduceIte,bind_assoc,List.length_nil,bne_self_eq_false]
 unfold Builtin.Frozenset.addrOf Builtin.Frozenset.sizeOf
 apply wpAny_bind
 refine wpAny_pure ?_
 dsimp only
 apply wpAny_bind
 refine wpAny_pure ?_
 apply wpAny_bind
 apply wpAny_bind
 refine wpAny_setEntries_of g1 g3 g4 (wpAny_pure ?_)
 apply wpAny_bind
 unfold setDrawn
 apply wpAny_bind
 refine wpAny_setState_of g1 g3 g4 ?_
 dsimp only
 apply wpAny_bind
 unfold setsByText
 apply wpAny_bind
 apply wpAny_askSetting
 refine wpAny_pure (wpAny_pure ?_)
 have np:∀ {oI:Obj} {h:Heap},(∀ b o,s.heap.get? b=some o→h.get? b=some o)→s.heap.objs.size ≤ h.objs.size→∀ b o,s.heap.get? b=some o→(h.push oI).get? b=some o:=fun k _ b o e=>Heap.get?_push_of_some _ (k b o e)
 refine wpAny_ite_split (fun z=>?_) (fun z=>?_)
 ·have hb:byT w=false:=by
   have z:(!byT w && (!t.plain && decide (es.size > 1)))=true:=z
   cases hx:byT w with
   | false=>rfl
   | true=>rw [hx] at z; cases z
  apply wpAny_bind
  refine wp_draw es.size (List.range es.size) _ _ List.length_range fun ps d hp=>?_
  apply wpAny_bind
  refine wpAny_newTuple ?_ (by rw [List.length_map,hp.length_eq,List.length_range]; exact fits_of_scanBound (by omega))
  apply wpAny_bind
  refine wpAny_setEpoch_of (Heap.get?_push_of_some _ g1) g3 g4 ?_
  apply wpAny_bind
  refine wpAny_newObj_type ?_
  have sz:(s.heap.push (seqObj "tuple" (ps.map fun (i:Nat)=>rawInt i).toArray 0)).objs.size=s.heap.objs.size + 1:=Heap.size_push ..
  refine wpAny_pure ⟨_,rfl,"set_iterator",_,⟨_,Heap.get?_push_size _ rfl,rfl⟩,si_next.lookup,q _ _ d _ _ _ es.size ⟨walkB (t:=t) (es:=es) (ep:=ep) (a:=a) (ps:=ps) (tp:=s.heap.objs.size) hh ?_ ?_ g4 hp,hl,⟨⟨_,Heap.get?_push_size _ rfl,rfl,rfl⟩,⟨o,Heap.get?_push_of_some _ (Heap.get?_push_of_some _ g1),g2,g3⟩,_,_,Heap.get?_push_of_some _ (Heap.get?_push_size _ rfl),rfl⟩,?_,?_,fun b o e=>Heap.get?_push_of_some _ (Heap.get?_push_of_some _ e),?_⟩⟩
  ·exact fun z=>absurd hlt (by rw [z]; exact Nat.not_lt.mpr (by show s.heap.objs.size ≤ _; rw [show (Heap.push s.heap _).objs.size=s.heap.objs.size + 1 from Heap.size_push ..]; exact Nat.le_succ _))
  ·exact fun z=>absurd (Nat.lt_succ_self s.heap.objs.size) (by rw [show s.heap.objs.size.succ=(Heap.push s.heap _).objs.size from (Heap.size_push ..).symm,← z]; exact Nat.lt_irrefl _)
  ·intro b hb
   simp only [List.mem_cons,List.not_mem_nil,or_false] at hb
   rcases hb with rfl | rfl | rfl
   ·exact .inr (by show s.heap.objs.size ≤ _; rw [show (Heap.push s.heap _).objs.size=s.heap.objs.size + 1 from Heap.size_push ..]; exact Nat.le_succ _)
   ·exact .inr (Nat.le_refl _)
   ·exact .inl rfl
  ·show s.heap.objs.size ≤ _
   rw [show (Heap.push s.heap _).objs.size=s.heap.objs.size + 1 from Heap.size_push ..]
   exact Nat.le_succ _
  ·intro acc hacc
   have hps:ps.length=es.size:=by have:=hp.length_eq; rwa [List.length_range] at this
   have e:=items_eq hacc (L:=ps.map fun p=>((es[p]?).map (·.2)).getD .none) (by rw [List.length_map,hps]) fun j v ⟨p,h1,h2⟩=>by rw [List.getElem?_map,h1,Option.map_some,h2]; rfl
   rw [e]
   have pm:(ps.map fun p=>((es[p]?).map (·.2)).getD .none).Perm (es.toList.map (·.2)):=by
    refine (hp.map _).trans ?_
    have:(List.range es.size).map (fun p=>((es[p]?).map (·.2)).getD .none)=es.toList.map (·.2):=by
     refine List.ext_getElem (by simp) fun i h1 h2=>?_
     have:i < es.size:=by simpa using h2
     simp [this]
    rw [this]
   obtain ⟨m1,a1,a2⟩:=ints_perm pm g7
   exact ⟨m1,a1,a2.trans g8⟩
 ·apply wpAny_bind
  refine wpAny_pure ?_
  apply wpAny_bind
  refine wpAny_setEpoch_of g1 g3 g4 ?_
  apply wpAny_bind
  refine wpAny_newObj_type ?_
  have ne:a ≠ s.heap.objs.size:=Nat.ne_of_lt hlt
  have fo:∀ b ∈ [s.heap.objs.size,a],b=a ∨ s.heap.objs.size ≤ b:=by
   intro b hb
   simp only [List.mem_cons,List.not_mem_nil,or_false] at hb
   rcases hb with rfl | rfl
   ·exact .inr (Nat.le_refl _)
   ·exact .inl rfl
  have raw:RawS (s.heap.push { cls:=.type "set_iterator",data:=.fields #[rawInt 0,rawInt 0,.ref a,rawInt es.size,rawInt ep] }) a es ep t:=⟨o,Heap.get?_push_of_some _ g1,g2,g3⟩
  cases hb:byT w with
  | true=>
   refine wpAny_pure ⟨_,rfl,"set_iterator",_,⟨_,Heap.get?_push_size _ rfl,rfl⟩,si_next.lookup,q _ _ s.drawn _ _ _ es.size ⟨walkA (t:=t) (es:=es) (ep:=ep) (a:=a) hh ne g4 hb,hl,⟨⟨_,Heap.get?_push_size _ rfl,rfl,rfl⟩,raw⟩,fo,Nat.le_refl _,fun b o e=>Heap.get?_push_of_some _ e,fun acc hacc=>?_⟩⟩
   have hp:=pick_perm (w.params.setOrder a ep) es
   have e:=items_eq hacc (L:=(pickOrder (w.params.setOrder a ep) es).toList.map (·.2)) (by rw [List.length_map,hp.length_eq,Array.length_toList]) fun j v hv=>by rw [List.getElem?_map,Array.getElem?_toList]; exact hv
   rw [e]
   obtain ⟨m1,a1,a2⟩:=ints_perm (hp.map (·.2)) g7
   exact ⟨m1,a1,a2.trans g8⟩
  | false=>
   have hd:(!t.plain && decide (es.size > 1))=false:=by
    have z:¬ (!byT w && (!t.plain && decide (es.size > 1)))=true:=z
    rw [hb] at z
    simpa using z
   have hg:Good t true:=by have:=g5; rw [hb] at this; exact this
   refine wpAny_pure ⟨_,rfl,"set_iterator",_,⟨_,Heap.get?_push_size _ rfl,rfl⟩,si_next.lookup,q _ _ s.drawn _ _ _ es.size ⟨walkC (t:=t) (es:=es) (ep:=ep) (a:=a) hh ne g4 hb hd hg,hl,⟨Nat.zero_le _,⟨_,Heap.get?_push_size _ rfl,rfl,rfl⟩,raw⟩,fo,Nat.le_refl _,fun b o e=>Heap.get?_push_of_some _ e,fun acc hacc=>?_⟩⟩
   have e:=items_eq hacc (L:=es.toList.map (·.2)) (by rw [List.length_map,Array.length_toList]) fun j v hv=>by rw [List.getElem?_map,Array.getElem?_toList]; exact hv
   rw [e]
   exact ⟨ms,g7,g8⟩
end
end L2.Sk
set_option maxRecDepth 100000
namespace L2.Sk
open PySem PySem.Calls PyProof.Rows PySem.Spec PySem.W
section
variable {prog : Program} {w : World} {A : Around} {E : Value → Shared → Prop} {s : Shared} {a : Addr} {S : List Int}
theorem set_hint {Q:Bool→Shared→Prop} (T:s.TypeIs (.ref a) "set") (q:Q false s):wpAny (model prog w) A (Builtin.List.listLengthHint (.ref a)) Q E s:=by
 unfold Builtin.List.listLengthHint
 apply wpAny_bind
 refine wpAny_specialOf T PySem.F.slot_set_len.lookup ?_
 generalize hid:("set.__len__":String)=id0
 wp_delta
 rw [show splitId id0=some ("set","__len__") from by subst hid; decide +kernel]
 subst hid
 apply wpAny_bind
 refine wpAny_isInstance (T:="set") (b:=true) T sub_set_self ?_
 refine wpAny_ite_split (fun z=>absurd z (by decide)) (fun _=>?_)
 refine wpAny_ite_split (fun _=>?_) (fun z=>absurd (by decide +kernel) z)
 apply wpAny_bind
 exact wpAny_typeOf T (wpAny_pure q)
theorem set_extend {R:Result→Shared→Prop} (hh:A.handled=none) (hS:SetI prog w s.heap a S) (hb:S.length < scanBound) (D:Addr) (hDa:D ≠ a) (res:Value) (c₀:Nat) (hD:s.heap.get? D=some { cls:=.type "list",data:=.seq #[] c₀ })
  (hR:∀ h' tk d acc c ms,(∀ b o,b ≠ D→s.heap.get? b=some o→h'.get? b=some o)→h'.get? D=some { cls:=.type "list",dict:=none,data:=.seq acc c,slots:=#[] }→IntsAre acc.toList ms→ms.Perm S→R (.ok (.ret res)) { s with heap:=h',toks:=tk,drawn:=d }):
  wpAny (model prog w) A.in1 (Builtin.List.listExtendWith (.ref D) (.ref a) res) (fun fin s'=>match fin with | .done f=>R (.ok f) s' | .again c'=>c'.quiet=true∧codeAny (model prog w) A c' R s') (fun e s'=>R (.error e) s') s:=by
 unfold Builtin.List.listExtendWith
 apply wpAny_bind
 refine wpAny_typeOf (T:="set") hS.ty ?_
 have n1:Builtin.List.listSameRef (.ref D) (.ref a)=false:=by simp [Builtin.List.listSameRef,hDa]
 have n2:(Value.type "set" == Value.type "list")=false:=by decide
 have n3:(Value.type "set" == Value.type "tuple")=false:=by decide
 simp only [n1,n2,n3,Bool.or_false,Bool.false_eq_true,if_false]
 apply wpAny_bind
 refine set_iter (A:=A.in1) hh hS hb fun I h1 d fp P St n tr=>?_
 have hD1:=tr.keep D _ hD
 have lt:=Heap.lt_size hD
 have nI:D ≠ I:=Nat.ne_of_lt (Nat.lt_of_lt_of_le lt tr.new)
 have nf:D ∉ fp:=fun z=>by
  rcases tr.fpo D z with e | e
  ·exact hDa e
  ·exact absurd lt (Nat.not_lt.mpr e)
 have key:∀ (h:Heap) (c₁ tk:Nat),St 0 h→(∀ b o,b ≠ D→s.heap.get? b=some o→h.get? b=some o)→h.get? D=some { cls:=.type "list",data:=.seq #[] c₁ }→
   codeAny (model prog w) A (.builtin "list.extend.loop" ⟨[.ref D,.ref I,res],[]⟩) R { s with heap:=h,toks:=tk,drawn:=d }:=by
  intro h c₁ tk st hk hD2
  have hn:n ≤ sizeLine:=by rw [tr.len]; exact fits_of_scanBound hb
  refine codeAny_extend_loopS tr.walk.toS hn D nf res n 0 _ #[] c₁ rfl (Nat.zero_le _) st hD2 (ItemsOf.nil _) fun s' acc c hm hD' hacc=>?_
  obtain ⟨ms,i1,i2⟩:=tr.all acc hacc
  rw [Moved.eq_with hm]
  refine hR s'.heap s'.toks d acc c ms (fun b o hb e=>hm.heap b o (fun z=>?_) (hk b o hb e)) hD' i1 i2
  rcases List.mem_cons.mp z with e' | z
  ·exact hb e'
  ·rw [List.mem_singleton.mp z] at e
   exact absurd (Heap.lt_size e) (Nat.not_lt.mpr tr.new)
 apply wpAny_bind
 apply wpAny_holding
 refine set_hint (s:={ s with heap:=h1,drawn:=d }) (SetI.ty (prog:=prog) (w:=w) (S:=S) (hS.to fun o e=>tr.keep a o e)) ?_
 refine wpAny_ite_split (fun _=>?_) (fun _=>wpAny_pure ⟨plainId_quiet PySem.F.plain_extend_loop _,key _ c₀ _ tr.st (fun b o _ e=>tr.keep b o e) hD1⟩)
 apply wpAny_bind
 apply wpAny_rule
 apply wpAny_bind
 show wpAny _ _ (updateSeq D (·.push .none) >>= fun _=>updateSeq D (·.pop)) _ _ _
 apply wpAny_bind
 refine wpAny_updateSeq hD1 rfl ?_
 have hD2:=Heap.get?_update_self (Obj.mapSeq (·.push Value.none)) hD1 rfl
 refine wpAny_updateSeq (hz:=by seq_fits) hD2 rfl ?_
 have hD3:=Heap.get?_update_self (Obj.mapSeq (·.pop)) hD2 rfl
 have oth:∀ b,b ≠ D→∀ o,h1.get? b=some o→((h1.update D (Obj.mapSeq (·.push Value.none))).update D (Obj.mapSeq (·.pop))).get? b=some o:=fun b hb o e=>
  (Heap.get?_update_other _ _ (Ne.symm hb)).trans ((Heap.get?_update_other _ _ (Ne.symm hb)).trans e)
 refine wpAny_pure ⟨plainId_quiet PySem.F.plain_extend_loop _,key _ _ _ (tr.walk.frame 0 _ _ tr.st fun b hb o e=>oth b (fun z=>nf (z ▸ hb)) o e) (fun b o hb e=>oth b hb o (tr.keep b o e)) hD3⟩
theorem set_collect {R:List Value→Shared→Prop} (hh:A.handled=none) (hS:SetI prog w s.heap a S) (hb:S.length < scanBound)
  (q:∀ h' tk d acc ms,(∀ b o,s.heap.get? b=some o→h'.get? b=some o)→IntsAre acc ms→ms.Perm S→R acc { s with heap:=h',toks:=tk,drawn:=d }):wpAny (model prog w) A (collect (.ref a)) R E s:=by
 have lt:a < s.heap.objs.size:=let ⟨o,_,_,_,_,g,_⟩:=hS; Heap.lt_size g
 unfold collect
 apply wpAny_bind
 apply wpAny_runValue
 apply codeAny_builtin entry_proto_collect'
 rw [Around.under_plainId PySem.F.plain_proto_collect _]
 show wpAny _ A.in1 (newList [] >>= fun l=>again (.builtin "list.__iadd__" ⟨[l,.ref a],[]⟩)) _ _ s
 apply wpAny_bind
 refine wpAny_newObj_type ?_
 refine wpAny_pure ⟨plainId_quiet PySem.F.plain_list_iadd _,?_⟩
 apply codeAny_builtin entry_list_iadd'
 rw [Around.under_plainId PySem.F.plain_list_iadd _]
 have hD:(s.heap.push { cls:=.type "list",data:=.seq ([]:List Value).toArray }).get? s.heap.objs.size=some { cls:=.type "list",data:=.seq #[] }:=Heap.get?_push_size _ rfl
 show wpAny _ A.in1 (Builtin.List.listExtendWith (.ref s.heap.objs.size) (.ref a) (.ref s.heap.objs.size)) _ _ _
 have key:=set_extend (A:=A) (s:={ s with heap:=s.heap.push { cls:=.type "list",data:=.seq ([]:List Value).toArray } }) (S:=S)
  (R:=fun (r:Result) (s':Shared)=>∃ h' tk d acc c ms,r=.ok (.ret (.ref s.heap.objs.size))∧s'={ s with heap:=h',toks:=tk,drawn:=d }∧(∀ b o,s.heap.get? b=some o→h'.get? b=some o)∧h'.get? s.heap.objs.size=some { cls:=.type "list",dict:=none,data:=.seq acc c,slots:=#[] }∧IntsAre acc.toList ms∧ms.Perm S)
  hh (hS.to fun o e=>Heap.get?_push_of_some _ e) hb s.heap.objs.size (Nat.ne_of_gt lt) (.ref s.heap.objs.size) 0 hD
  (fun h' tk d acc c ms hk h1 h2 h3=>⟨h',tk,d,acc,c,ms,rfl,rfl,fun b o e=>hk b o (Nat.ne_of_lt (Heap.lt_size e)) (Heap.get?_push_of_some _ e),h1,h2,h3⟩)
 refine wpAny_mono key (fun fin s' x=>?_) fun e s' x=>?_
 ·cases fin with
  | done f=>
   obtain ⟨h',tk,d,acc,c,ms,e,rfl,hk,h1,h2,h3⟩:=x
   cases e
   show wpAny _ A (load s.heap.objs.size >>= _) _ _ _
   apply wpAny_bind
   refine wpAny_load h1 ?_
   exact wpAny_pure (q h' tk d acc.toList ms hk h2 h3)
  | again c₁=>
   refine ⟨x.1,codeAny_mono x.2 fun r s₂ y=>?_⟩
   obtain ⟨h',tk,d,acc,c,ms,rfl,rfl,hk,h1,h2,h3⟩:=y
   show wpAny _ A (load s.heap.objs.size >>= _) _ _ _
   apply wpAny_bind
   refine wpAny_load h1 ?_
   exact wpAny_pure (q h' tk d acc.toList ms hk h2 h3)
 ·obtain ⟨_,_,_,_,_,_,e',_⟩:=x
  cases e'
end
end L2.Sk
set_option maxRecDepth 100000
namespace L2
open PySem PySem.Spec PySem.Calls PyProof.Rows L2.Sk
theorem Inv.drawn {X:Cx} {pins:List (Addr × Obj)} {σ:St} {H:Hp} {s:Shared} (I:Inv X pins σ H s) (d:Drawn):Inv X pins σ H { s with drawn:=d }:=⟨I.ok,I.os,I.bare,I.base,I.loc,I.cell,I.free,I.freeC,I.pin,I.hok,I.len⟩
def setO (prog:Program) (w:World) (r:Addr) (S:List Int):HO:=.ext (fun h=>SetI prog w h r S)
namespace Sk
theorem dedup_go (ns:List Int):∀ S:List Int,S.Nodup→(ns.foldl addI S).Nodup∧(∀ k,k ∈ ns.foldl addI S ↔ k ∈ S ∨ k ∈ ns)∧((S ++ ns).Nodup→ns.foldl addI S=S ++ ns)∧(ns.foldl addI S).length ≤ S.length + ns.length:=by
 induction ns with
 | nil=>intro S h; exact ⟨h,fun k=>by simp,fun _=>by simp,by simp⟩
 | cons n ns ih=>
  intro S h
  have h1:(addI S n).Nodup:=by
   unfold addI
   split
   ·exact h
   ·rename_i hn
    exact List.nodup_append.mpr ⟨h,by simp,fun a ha b hb e=>hn (by rw [List.mem_singleton.mp hb] at e; exact e ▸ ha)⟩
  obtain ⟨a,b,c,d⟩:=ih (addI S n) h1
  rw [List.foldl_cons]
  refine ⟨a,fun k=>?_,fun hn=>?_,?_⟩
  ·rw [b k]
   unfold addI
   split
   ·rename_i hn
    rw [List.mem_cons]
    constructor
    ·rintro (z | z)
     ·exact .inl z
     ·exact .inr (.inr z)
    ·rintro (z | z | z)
     ·exact .inl z
     ·exact .inl (z ▸ hn)
     ·exact .inr z
   ·rw [List.mem_append,List.mem_singleton,List.mem_cons,or_assoc]
  ·have hm:¬ n ∈ S:=fun z=>(List.nodup_append.mp hn).2.2 n z n (List.mem_cons_self ..) rfl
   have e:addI S n=S ++ [n]:=if_neg hm
   rw [e] at c ⊢
   rw [c (by simpa using hn)]
   simp
  ·have:(addI S n).length ≤ S.length + 1:=by
    unfold addI
    split
    ·omega
    ·rw [List.length_append]; exact Nat.le_refl _
   rw [List.length_cons]
   omega
theorem dedup_self {ns:List Int} (h:ns.Nodup):dedupI ns=ns:=by rw [dedupI,(dedup_go ns [] List.nodup_nil).2.2.1 (by simpa using h)]; rfl
theorem dedup_len (ns:List Int):(dedupI ns).length ≤ ns.length:=by have:=(dedup_go ns [] List.nodup_nil).2.2.2; unfold dedupI; simpa using this
end Sk
section
variable {X : Cx}
theorem call_set_l (hc:X.calm=true):CallR X (.type "set") (fun xs H Q=>∃ (l:Addr) (ns:List Int),xs=[.ref l]∧H l=some (.lst (ns.map V.int))∧ns.length < 4000∧∀ r,H r=none→Q (.ref r) (upd H r (setO X.prog X.w r (dedupI ns)))):=by
 intro pins s σ H xs us Q I r h
 obtain ⟨l,ns,rfl,hH,hlt,q⟩:=h
 obtain ⟨u,rfl,rx⟩:=vals1 r
 cases rx
 obtain ⟨z',its,n,r,hl,e⟩:=I.lstM hH
 have hI:=vals_intsA r
 have hlen:its.length=ns.length:=by rw [← r.length,List.length_map]
 have sb:scanBound=4096:=rfl
 refine call_set_ints (items:=its.toArray) (ns:=ns) (I.ok.hd hc) ⟨_,e,rfl,n,rfl⟩ (by simpa using hI) (by simp; omega) fun h' tk hS keep=>?_
 refine ⟨.ref s.heap.objs.size,_,I.laid (t':=tk) keep (Nat.le_refl _) (show ObjOk X.prog X.w _ _ _ (setO X.prog X.w s.heap.objs.size (dedupI ns)) from ⟨hS,let ⟨o,_,_,_,_,g,_⟩:=hS; ⟨o,g⟩,fun h1 h2 x k=>x.to k⟩),rfl,q _ (I.hok.fresh (Nat.le_refl _))⟩
theorem call_len_set:CallR X (.builtin "len") (fun xs H Q=>∃ (r:Addr) (S:List Int),xs=[.ref r]∧H r=some (setO X.prog X.w r S)∧S.length < 4000∧Q (.int (S.length:Nat)) H):=by
 intro pins s σ H xs us Q I r h
 obtain ⟨a,S,rfl,hH,hlt,q⟩:=h
 obtain ⟨u,rfl,rx⟩:=vals1 r
 cases rx
 have hS:SetI X.prog X.w s.heap a S:=(I.hok a _ hH).1
 have sb:scanBound=4096:=rfl
 refine call_len_ints hS (by omega) fun t tk=>⟨.int (S.length:Nat),H,I.kept (t':=tk) (fun _ _ e=>e),⟨t,rfl⟩,q⟩
theorem call_sorted_set (hc:X.calm=true):CallR X (.builtin "sorted") (fun xs H Q=>∃ (r:Addr) (S:List Int),xs=[.ref r]∧H r=some (setO X.prog X.w r S)∧S.length < 64∧∀ ns':List Int,ns'.Perm S→ns'.Pairwise (· ≤ ·)→NewQ H (.lst (ns'.map V.int)) Q):=by
 intro pins s σ H xs us Q I r h
 obtain ⟨a,S,rfl,hH,h64,q⟩:=h
 obtain ⟨u,rfl,rx⟩:=vals1 r
 cases rx
 have hS:SetI X.prog X.w s.heap a S:=(I.hok a _ hH).1
 have sb:scanBound=4096:=rfl
 refine call_function_entry kind_sorted plain_sorted entry_sorted (args_sorted1 _) ?_
 unfold Builtin.«sorted»
 refine wpAny_bind (m:=checkCount "sorted" 1 1 _) (wpAny_pure ?_)
 refine wpAny_bind (set_collect (A:=X.A.in1) (I.ok.hd hc) hS (by omega) fun h' tk d acc ms keep hI hp=>?_)
 have hlen:acc.length < 64:=by rw [ints_len hI,hp.length_eq]; exact h64
 refine wpAny_bind (wpAny_newList ?_ (Nat.le_trans (Nat.le_of_lt hlen) (by decide)))
 have hoL:(h'.push (seqObj "list" acc.toArray 0)).get? h'.objs.size=some (seqObj "list" acc.toArray 0):=Heap.get?_push_size _ rfl
 refine wpAny_bind (wpAny_holding (wpAny_call_entry slot_list_sort ⟨_,hoL,rfl⟩ entry_list_sort (list_sort_tree hoL hI hlen fun out ns' a1 a2 a3=>⟨_,rfl,?_⟩) (args_list_sort _)))
 refine wpAny_pure ⟨_,rfl,?_⟩
 have keep':∀ b u,h'.get? b=some u→(sortedHeap (h'.push (seqObj "list" acc.toArray 0)) h'.objs.size acc out).get? b=some u:=fun b u h1=>by
  have h2:=Heap.lt_size h1
  rw [sortedHeap_old (h:=h'.push (seqObj "list" acc.toArray 0)) (Nat.ne_of_lt h2) (by rw [size_push']; exact Nat.lt_succ_of_lt h2)]
  exact Heap.get?_push_of_some _ h1
 obtain ⟨e,hat⟩:=sortedHeap_at (out:=out) hoL
 have hval:Vals (ns'.map V.int) out.toList:=ints_vals a1
 have a4:=a2.trans hp
 have hln:(ns'.map V.int).length ≤ sizeLine:=by
  rw [List.length_map,a4.length_eq]
  exact Nat.le_trans (Nat.le_of_lt h64) (by decide)
 have I1:=(I.kept (t':=tk) keep).drawn d
 refine ⟨.ref h'.objs.size,_,I1.laid (t':=tk) keep' (Nat.le_refl _) (show ObjOk X.prog X.w _ _ _ (.lst (ns'.map V.int)) from ⟨hln,out.toList,e,hval,?_⟩),rfl,(q ns' a4 a3).at (I1.hok.fresh (Nat.le_refl _))⟩
 simpa using hat
end
end L2
set_option maxRecDepth 100000
namespace L2
open PySem PySem.Spec PyProof.Rows
section
variable {X : Cx}
def rInsert:V→List V→Hp→VK→Prop:=fun x vs H Q=>∃ (l:Addr) (xs:List V) (i:Nat) (y:V),x=.ref l∧vs=[.int (i:Int),y]∧H l=some (.lst xs)∧i ≤ xs.length∧xs.length < 1000∧Q .non (upd H l (.lst (xs.take i ++ y :: xs.drop i)))
theorem mt_insert:MtM X "list.insert" rInsert:=by
 intro pins s σ H x vs v us Q I rx rv h
 obtain ⟨l,xs,i,y,rfl,rfl,hH,hi,hz,q⟩:=h
 cases rx
 obtain ⟨t,u,rfl,ru⟩:∃ (t:Tok) (u:Value),us=[.int (i:Int) t,u]∧RelV y u:=by
  cases rv with
  | cons r1 rv=>
   cases rv with
   | cons r2 rv=>
    cases rv
    obtain ⟨t,rfl⟩:=r1
    exact ⟨t,_,rfl,r2⟩
 obtain ⟨z,its,n,r,hl,e⟩:=I.lstM hH
 have sl:sizeLine=2 ^ 24:=rfl
 have hfit:¬ (!Builtin.List.listFitsIndex (i:Int))=true:=by
  rw [show Builtin.List.listFitsIndex (i:Int)=true from fitsIndex_both (by omega) (by omega)]
  exact fun z=>nomatch z
 have hsz:its.toArray.size ≤ sizeLine:=by rw [List.size_toArray]; omega
 have M:=@PySem.AutoSeq1.list_insert_list_int_val_1 l its.toArray n (i:Int) t u hfit hsz
 refine' call_meets F.slot_list_insert ⟨_,e,rfl⟩ F.entry_list_insert (F.args_list_insert_3 _ _ _) ?hM ?hp
 case hM=>with_reducible assumption
 refine ⟨e,?_⟩
 refine ⟨.non,_,I.lset (its':=its.take i ++ u :: its.drop i) hH e ?_ ((r.take i).append (.cons ru (r.drop i))) ?_,rfl,q⟩
 ·show (its.toArray.extract 0 (if (i:Int) < 0 then ((i:Int) + (its.toArray.size:Int)).toNat else min (i:Int).toNat its.toArray.size)).push u ++ its.toArray.extract (if (i:Int) < 0 then ((i:Int) + (its.toArray.size:Int)).toNat else min (i:Int).toNat its.toArray.size)=_
  rw [if_neg (by omega),List.size_toArray,Int.toNat_natCast,Nat.min_eq_left (by omega)]
  exact PySem.W.kl_ins_eq its i u
 ·rw [List.length_append,List.length_cons,List.length_take,List.length_drop]
  omega
theorem any_range (bs:List Bool):(List.range bs.length).any (fun i=>bs.getD i false)=bs.any id:=by
 have e:(List.range bs.length).map (fun i=>bs.getD i false)=bs:=by
  refine List.ext_getElem (by simp) fun i h1 h2=>?_
  simp [h2]
 have:=List.any_map (f:=fun i=>bs.getD i false) (l:=List.range bs.length) (p:=id)
 rw [e] at this
 exact this.symm
theorem call_anyB (K:PySem.W.Frag) (hc:X.calm=true) (hK:X.K=K:=by rfl):CallR X (.builtin "any") (fun xs H Q=>∃ (p:Addr) (bs:List Bool),xs=[.ref p]∧SqL K H p (bs.map V.bl)∧Q (.bl (bs.any id)) H):=by
 subst hK
 intro pins s σ H xs us Q I r h
 obtain ⟨p,bs,rfl,hq,q⟩:=h
 obtain ⟨u,rfl,r1⟩:=vals1 r
 cases r1
 obtain ⟨its,rv,pl,hz⟩:=I.list hq
 have hlen:its.length=bs.length:=by have:=rv.length; rw [List.length_map] at this; omega
 have hpn:p ≠ s.heap.objs.size:=by
  obtain ⟨_,_,e,_⟩:=pl
  exact Nat.ne_of_lt (Heap.lt_size e)
 refine call_any_walk ?_
 refine wpAny_pyIter_list pl.isList ?_
 refine ⟨s.heap.objs.size,[s.heap.objs.size,p],[s.heap.objs.size],its.toArray.size,_,_,fun i=>bs.getD i false,rfl,Walks.list (A:=X.A.in1) (I.ok.hd hc) _ p hpn its.toArray,⟨⟨_,Heap.get?_push_size _ rfl,rfl,rfl⟩,pl.isList.push _⟩,fun i v s' Q' E' hv hQ=>?_,fun h' tk hk=>?_⟩
 ·have hv:its[i]?=some v:=by simpa using hv
  have hi:i < bs.length:=by rw [← hlen]; exact (List.getElem?_eq_some_iff.mp hv).1
  have hb:(bs.map V.bl)[i]?=some (V.bl bs[i]):=by rw [List.getElem?_map,List.getElem?_eq_getElem hi]; rfl
  obtain ⟨w1,e1,r1⟩:=rv.get hb
  rw [hv] at e1; cases e1
  obtain rfl:v=Value.bool bs[i]:=r1
  dsimp only at hQ
  rw [List.getD_eq_getElem?_getD,List.getElem?_eq_getElem hi] at hQ
  exact wpAny_truthy_bool hQ
 ·have e:its.toArray.size=bs.length:=by simp [hlen]
  rw [e,any_range]
  refine ⟨.bl (bs.any id),H,I.kept (t':=tk) fun b o e=>hk b o (fun z=>?_) (Heap.get?_push_of_some _ e),rfl,q⟩
  have z':b=s.heap.objs.size:=by simpa using z
  exact absurd (Heap.lt_size e) (by rw [z']; exact Nat.lt_irrefl _)
def AlikeL (K:PySem.W.Frag) (H:Hp) (l l':V):Prop:=(∃ as:List Int,isLs K isI H l as∧isLs K isI H l' as) ∨ (∃ as:List (List Int),isLs K (isLs K isI) H l as∧isLs K (isLs K isI) H l' as)
theorem op_neW (hu:X.A.units + 4 < cLine):OpR X (compareOp .NotEq) (fun x y H Q=>∃ (p p':Addr) (a:Str) (l l':V),x=.ref p∧y=.ref p'∧SqT X.K H p [.str a,l]∧SqT X.K H p' [.str a,l']∧AlikeL X.K H l l'∧Q (.bl false) H):=by
 intro pins s σ H x y v u Q I rx ry hw
 obtain ⟨p,p',a,l,l',rfl,rfl,h1,h2,hal,q⟩:=hw
 cases rx
 cases ry
 obtain ⟨its,r1,pl,hz⟩:=I.tuple h1
 obtain ⟨its2,r2,pl2,hz2⟩:=I.tuple h2
 have two:∀ {vs:List Value} {l:V},Vals [.str a,l] vs→∃ u1 u2,vs=[u1,u2]∧RelV (.str a) u1∧RelV l u2:=fun r=>by
  cases r with
  | cons x r=>
   cases r with
   | cons y r=>cases r; exact ⟨_,_,rfl,x,y⟩
 obtain ⟨u1,u2,rfl,a1,b1⟩:=two r1
 obtain ⟨w1,w2,rfl,a2,b2⟩:=two r2
 have k0:SeqAt.EqAt X.A.in1 s u1 w1 true:=by
  have:=(eqk_key (K:=X.K)).eq X X.A.in1 pins s σ H (.str a) (.str a) _ _ (Sum.inr a) (Sum.inr a) rfl I a1 a2 rfl rfl (by rw [Around.in1_units]; omega)
  rwa [decide_eq_true rfl] at this
 have k1:SeqAt.EqAt X.A.in1 s u2 w2 true:=by
  rcases hal with ⟨as,q1,q2⟩ | ⟨as,q1,q2⟩
  ·have:=(eqk_list (eqk_int (K:=X.K))).eq X X.A.in1 pins s σ H l l' _ _ as as rfl I b1 b2 q1 q2 (by rw [Around.in1_units]; omega)
   rwa [decide_eq_true rfl] at this
  ·have:=(eqk_list (eqk_list (eqk_int (K:=X.K)))).eq X X.A.in1 pins s σ H l l' _ _ as as rfl I b1 b2 q1 q2 (by rw [Around.in1_units]; omega)
   rwa [decide_eq_true rfl] at this
 refine SeqAt.RcNeAt.tuples (e:=fun _=>true) pl pl2 (by omega) (fun j h1 h2=>?_) X.prog X.w X.xe _ ?_
 ·match j,h1,h2 with
  | 0,_,_=>exact k0
  | 1,_,_=>exact k1
  | j + 2,h1,_=>exact absurd h1 (by simp)
 ·exact ⟨.bl false,H,I,rfl,q⟩
theorem neWK (K:PySem.W.Frag) (hu:X.A.units + 4 < cLine) (h:X.K=K:=by rfl):OpR X (compareOp .NotEq) (fun x y H Q=>∃ (p p':Addr) (a:Str) (l l':V),x=.ref p∧y=.ref p'∧SqT K H p [.str a,l]∧SqT K H p' [.str a,l']∧AlikeL K H l l'∧Q (.bl false) H):=by
 subst h; exact op_neW hu
def DfXd (P:Program) (w:World) (K:PySem.W.Frag) (mg:Str→Option Value) (base:Heap) (k:Nat) (x:Str) (ps:List Str) (dvs:List V) (sp:Sp):Prop:=
 ∃ f fd ds,mg x=some (.ref f)∧PySem.W.keepIn K (.ref f)=true∧Binds K fd ps ds∧Vals dvs ds∧FnOk P w K mg base (CXE P w) k f fd ps sp
def tCallXd (sp:Sp) (dvs:List V) (W:St→XK) (t:TA):TE:=fun σ H Q=>t σ H fun vs H1=>sp (vs ++ dvs) H1 Q (W σ)
theorem pe_callXd {k:Nat} {x:Str} {ps:List Str} {dvs:List V} {sp:Sp} {W:St→XK} {t:TA} {e:Expr} {es:List Expr} {p pos:Pos} (hx:ThrOn X W) (D:DfXd X.prog X.w X.K X.mg X.base k x ps dvs sp) (hr:Room k X.A) (hg:Gl X x)
  (ha:PA X (e :: es) t) (hdb:(x == ("__debug__":Str))=false:=by decide) (he:starEach (e :: es) X.env=(false,eval e X.env) :: starEach es X.env:=by rfl) (hpl:(backTo pos (starEach es X.env)).any (·.1)=false:=by rfl):
  PE X (.Call (.Name x p) (e :: es) [] pos) (tCallXd sp dvs W t):=by
 obtain ⟨f,fd,ds,hm,hk,hb,hd,F⟩:=D
 intro pins s σ H Q I h
 refine wpAny_Call_Name_kw (ld_glob I hg hm ?_ hdb)
 refine PySem.W.callWith_K (h₀:=X.base) I.ok.mod.kin hk (thn (ha pos pins s σ H _ I h) fun us s1 ⟨vs,H1,I1,r,q⟩=>⟨I1.kIn,?_⟩) he hpl
 exact run_fnXd F hr hb hd hx I1 r q
end
end L2
set_option maxRecDepth 100000
namespace L2.Wy
variable {ν : Type} [DecidableEq ν]
abbrev T (ν:Type):=Int × ν × ν × Int
def b2 (b:Bool):Int:=if b then 1 else 0
def term (U:Int→Bool) (p:ν→Bool) (t:T ν):Int:=if U t.1 then b2 (p t.2.1) - b2 (p t.2.2.1) else 0
def net (ts:List (T ν)) (U:Int→Bool) (p:ν→Bool):Int:=(ts.map (term U p)).sum
def stp (t:T ν) (x:ν) (U:Int→Bool):Option ν:=if U t.1 then (if t.2.2.1=x then some t.2.1 else none) else (if t.2.1=x then some t.2.2.1 else none)
def flip (U:Int→Bool) (k:Int):Int→Bool:=fun j=>if j=k then !U j else U j
theorem flip_same (U:Int→Bool) (k:Int):flip U k k=!U k:=if_pos rfl
theorem flip_ne (U:Int→Bool) {k j:Int} (h:j ≠ k):flip U k j=U j:=if_neg h
theorem net_cons (t:T ν) (ts:List (T ν)) (U:Int→Bool) (p:ν→Bool):net (t :: ts) U p=term U p t + net ts U p:=by
 unfold net
 rw [List.map_cons,List.sum_cons]
theorem net_congr {ts:List (T ν)} {U V:Int→Bool} (p:ν→Bool) (h:∀ t ∈ ts,U t.1=V t.1):net ts U p=net ts V p:=by
 unfold net
 congr 1
 refine List.map_congr_left fun t ht=>?_
 unfold term
 rw [h t ht]
def Nums (ts:List (T ν)):Prop:=(ts.map (·.1)).Nodup
theorem Nums.tail {t:T ν} {ts:List (T ν)} (h:Nums (t :: ts)):Nums ts:=(List.nodup_cons.mp h).2
theorem Nums.ne {t u:T ν} {ts:List (T ν)} (h:Nums (t :: ts)) (hu:u ∈ ts):u.1 ≠ t.1:=fun e=>(List.nodup_cons.mp h).1 (by
 show t.1 ∈ ts.map (·.1)
 rw [← e]
 exact List.mem_map_of_mem (f:=(·.1)) hu)
theorem Nums.inj {ts:List (T ν)} (h:Nums ts) {t u:T ν} (ht:t ∈ ts) (hu:u ∈ ts) (e:t.1=u.1):t=u:=by
 induction ts with
 | nil=>cases ht
 | cons a ts ih=>
  rcases List.mem_cons.mp ht with rfl | ht1
  ·rcases List.mem_cons.mp hu with rfl | hu
   ·rfl
   ·exact absurd e.symm (h.ne hu)
  ·rcases List.mem_cons.mp hu with rfl | hu
   ·exact absurd e (h.ne (by assumption))
   ·exact ih h.tail (by assumption) hu
theorem term_flip {U:Int→Bool} {p:ν→Bool} {t:T ν} {x y:ν} (h:stp t x U=some y):term (flip U t.1) p t=term U p t + b2 (p x) - b2 (p y):=by
 unfold stp at h
 unfold term
 rw [flip_same]
 cases hU:U t.1 with
 | true=>
  rw [hU] at h
  rw [if_pos rfl] at h
  split at h
  ·rename_i e
   cases h
   subst e
   simp
  ·cases h
 | false=>
  rw [hU] at h
  rw [if_neg (by decide)] at h
  split at h
  ·rename_i e
   cases h
   subst e
   simp
  ·cases h
theorem net_flip {ts:List (T ν)} {U:Int→Bool} {p:ν→Bool} {t:T ν} {x y:ν} (nd:Nums ts) (ht:t ∈ ts) (h:stp t x U=some y):net ts (flip U t.1) p=net ts U p + b2 (p x) - b2 (p y):=by
 induction ts with
 | nil=>cases ht
 | cons a ts ih=>
  rw [net_cons,net_cons]
  rcases List.mem_cons.mp ht with rfl | ht
  ·rw [term_flip h,net_congr p (U:=flip U t.1) (V:=U) (fun u hu=>flip_ne U (nd.ne hu))]
   omega
  ·rw [ih nd.tail ht]
   have:term (flip U t.1) p a=term U p a:=by
    unfold term
    rw [flip_ne U (fun e=>nd.ne ht e.symm)]
   rw [this]
   omega
def Flow (ts:List (T ν)) (U:Int→Bool) (h g:ν) (v:Int):Prop:=∀ p:ν→Bool,net ts U p=v * (b2 (p h) - b2 (p g))
theorem Flow.none (ts:List (T ν)) (h g:ν):Flow ts (fun _=>false) h g 0:=fun p=>by
 rw [Int.zero_mul]
 unfold net
 induction ts with
 | nil=>rfl
 | cons t ts ih=>
  rw [List.map_cons,List.sum_cons,ih]
  rfl
abbrev Cm (ν:Type):=List (ν × Option (Int × ν))
def keys (c:Cm ν):List ν:=c.map (·.1)
inductive Came (ts : List (T ν)) (U : Int → Bool) (h : ν) : Cm ν → Prop
  | one : Came ts U h [(h, none)]
  | snoc {cs : Cm ν} {x y : ν} {t : T ν} : Came ts U h cs → x ∈ keys cs → t ∈ ts → stp t x U = some y → ¬ y ∈ keys cs → Came ts U h (cs ++ [(y, some (t.1, x))])
theorem keys_append (a b:Cm ν):keys (a ++ b)=keys a ++ keys b:=List.map_append
theorem Came.nd {ts:List (T ν)} {U:Int→Bool} {h:ν} {cs:Cm ν} (C:Came ts U h cs):(keys cs).Nodup:=by
 induction C with
 | one=>simp [keys]
 | snoc C hx ht hs hy ih=>
  rw [keys_append]
  refine List.nodup_append.mpr ⟨ih,by simp [keys],fun a ha b hb e=>?_⟩
  have:b=_:=List.mem_singleton.mp hb
  subst this
  subst e
  exact hy ha
theorem Came.home {ts:List (T ν)} {U:Int→Bool} {h:ν} {cs:Cm ν} (C:Came ts U h cs):h ∈ keys cs:=by
 induction C with
 | one=>simp [keys]
 | snoc C hx ht hs hy ih=>rw [keys_append]; exact List.mem_append_left _ ih
theorem Came.at {ts:List (T ν)} {U:Int→Bool} {h:ν} {cs:Cm ν} (C:Came ts U h cs) {pre post:Cm ν} {y:ν} {s:Option (Int × ν)} (e:cs=pre ++ (y,s) :: post):
  (s=none∧y=h) ∨ ∃ t x,t ∈ ts∧s=some (t.1,x)∧x ∈ keys pre∧stp t x U=some y:=by
 induction C generalizing post with
 | one=>
  cases pre with
  | nil=>
   rw [List.nil_append] at e
   injection e with e1 e2
   injection e1 with e1 e3
   exact .inl ⟨e3.symm,e1.symm⟩
  | cons a pre=>
   rw [List.cons_append] at e
   injection e with e1 e2
   exact absurd e2 (by simp)
 | @snoc cs x y' t C hx ht hs hy ih=>
  rcases List.eq_nil_or_concat post with rfl | ⟨post',q,rfl⟩
  ·have e':cs ++ [(y',some (t.1,x))]=pre ++ [(y,s)]:=e
   obtain ⟨e1,e2⟩:=List.append_inj' e' rfl
   injection e2 with e2
   injection e2 with e3 e4
   subst e1 e3 e4
   exact .inr ⟨t,x,ht,rfl,hx,hs⟩
  ·have e':cs ++ [(y',some (t.1,x))]=(pre ++ (y,s) :: post') ++ [q]:=by rw [e,List.concat_eq_append]; simp
   obtain ⟨e1,e2⟩:=List.append_inj' e' rfl
   exact ih e1
theorem stp_det {t:T ν} {U:Int→Bool} {x x' y y':ν} (h:stp t x U=some y) (h':stp t x' U=some y'):y=y':=by
 unfold stp at h h'
 split at h
 ·rename_i hU
  rw [if_pos hU] at h'
  split at h
  ·split at h'
   ·cases h; cases h'; rfl
   ·cases h'
  ·cases h
 ·rename_i hU
  rw [if_neg hU] at h'
  split at h
  ·split at h'
   ·cases h; cases h'; rfl
   ·cases h'
  ·cases h
theorem stp_congr {t:T ν} {U V:Int→Bool} (x:ν) (h:U t.1=V t.1):stp t x U=stp t x V:=by
 unfold stp
 rw [h]
theorem mem_split {c:Cm ν} {y:ν} (h:y ∈ keys c):∃ pre s post,c=pre ++ (y,s) :: post:=by
 obtain ⟨⟨y',s⟩,hq,rfl⟩:=List.mem_map.mp h
 obtain ⟨pre,post,e⟩:=List.append_of_mem hq
 exact ⟨pre,s,post,e⟩
structure Back (ts : List (T ν)) (U : Int → Bool) (g : ν) (c : Cm ν) (V : Int → Bool) (y : ν) (s : Option (Int × ν)) (n : Nat) : Prop where
  at' : ∃ pre post, c = pre ++ (y, s) :: post ∧ pre.length = n ∧ ∀ q ∈ pre ++ [(y, s)], ∀ k x, q.2 = some (k, x) → V k = U k
  nt : ∀ p, net ts V p = net ts U p + b2 (p y) - b2 (p g)
theorem Back.start {ts:List (T ν)} {U:Int→Bool} {g:ν} {c pre post:Cm ν} {s:Option (Int × ν)} (e:c=pre ++ (g,s) :: post):Back ts U g c U g s pre.length:=
 ⟨⟨pre,post,e,rfl,fun _ _ _ _ _=>rfl⟩,fun p=>by omega⟩
theorem Back.step {ts:List (T ν)} {U V:Int→Bool} {h g:ν} {c:Cm ν} (nd:Nums ts) (C:Came ts U h c) {y x:ν} {k:Int} {n:Nat} (B:Back ts U g c V y (some (k,x)) n):
  ∃ s m,m < n∧Back ts U g c (flip V k) x s m:=by
 obtain ⟨pre,post,e,hn,hV⟩:=B.at'
 rcases C.at e with ⟨e0,_⟩ | ⟨t,x',ht,es,hx,hs⟩
 ·cases e0
 injection es with es
 injection es with e1 e2
 subst e1 e2
 have hVt:V t.1=U t.1:=hV (y,some (t.1,x)) (List.mem_append_right _ (List.mem_singleton.mpr rfl)) _ _ rfl
 obtain ⟨pre',s,post',e3⟩:=mem_split hx
 have hlt:pre'.length < n:=by
  rw [← hn,e3,List.length_append,List.length_cons]
  omega
 refine ⟨s,pre'.length,hlt,⟨⟨pre',post' ++ (y,some (t.1,x)) :: post,by rw [e,e3]; simp,rfl,fun q hq k' x'' hq2=>?_⟩,fun p=>?_⟩⟩
 ·have hqp:q ∈ pre:=by
   rw [e3]
   rcases List.mem_append.mp hq with hq | hq
   ·exact List.mem_append_left _ hq
   ·rw [List.mem_singleton.mp hq]; exact List.mem_append_right _ (List.mem_cons_self ..)
  have hne:k' ≠ t.1:=fun ek=>by
   obtain ⟨a,b,eab⟩:=List.append_of_mem hqp
   have e5:c=a ++ (q.1,q.2) :: (b ++ (y,some (t.1,x)) :: post):=by rw [e,eab]; simp
   rcases C.at e5 with ⟨e0,_⟩ | ⟨t2,x2,ht2,es2,_,hs2⟩
   ·rw [hq2] at e0; cases e0
   ·rw [hq2] at es2
    injection es2 with es2
    injection es2 with e6 e7
    have:t2=t:=nd.inj ht2 ht (e6.symm.trans ek)
    subst this
    have:=stp_det hs2 hs
    have hk:=C.nd
    rw [e,keys_append] at hk
    have h1:q.1 ∈ keys pre:=List.mem_map_of_mem hqp
    exact (List.nodup_append.mp hk).2.2 q.1 h1 y (by simp [keys]) this
  rw [flip_ne V hne]
  exact hV q (List.mem_append_left _ hqp) k' x'' hq2
 ·rw [net_flip nd ht ((stp_congr x hVt).trans hs),B.nt p]
  omega
theorem Back.stop {ts:List (T ν)} {U V:Int→Bool} {h g:ν} {c:Cm ν} (C:Came ts U h c) {y:ν} {n:Nat} {v:Int} (B:Back ts U g c V y none n) (F:Flow ts U h g v):Flow ts V h g (v + 1):=by
 obtain ⟨pre,post,e,hn,hV⟩:=B.at'
 rcases C.at e with ⟨_,rfl⟩ | ⟨t,x',ht,es,hx,hs⟩
 ·intro p
  rw [B.nt p,F p,Int.add_mul,Int.one_mul]
  omega
 ·cases es
def Closed (ts:List (T ν)) (U:Int→Bool) (p:ν→Bool):Prop:=∀ t ∈ ts,∀ x z,p x=true→stp t x U=some z→p z=true
def cutB (p:ν→Bool) (t:T ν):Bool:=p t.2.1 && !p t.2.2.1
def cutOf (ts:List (T ν)) (p:ν→Bool):List (T ν):=ts.filter (cutB p)
theorem net_le (ts:List (T ν)) (U:Int→Bool) (p:ν→Bool):net ts U p ≤ ((cutOf ts p).length:Int):=by
 unfold cutOf
 induction ts with
 | nil=>exact Int.le_refl _
 | cons t ts ih=>
  rw [net_cons,List.filter_cons]
  have:term U p t ≤ b2 (cutB p t):=by
   unfold term cutB b2
   cases U t.1 <;> cases p t.2.1 <;> cases p t.2.2.1 <;> decide
  cases hc:cutB p t with
  | true=>
   rw [hc] at this
   rw [if_pos rfl,List.length_cons]
   have h1:b2 true=1:=rfl
   omega
  | false=>
   rw [hc] at this
   rw [if_neg (by decide)]
   have h1:b2 false=0:=rfl
   omega
theorem closed_term {U:Int→Bool} {p:ν→Bool} {t:T ν} (h:∀ x z,p x=true→stp t x U=some z→p z=true):term U p t=b2 (cutB p t):=by
 unfold term cutB b2
 cases hU:U t.1 with
 | true=>
  have:=h t.2.2.1 t.2.1
  unfold stp at this
  rw [hU,if_pos rfl,if_pos rfl] at this
  cases h1:p t.2.1 <;> cases h2:p t.2.2.1 <;> simp_all
 | false=>
  have:=h t.2.1 t.2.2.1
  unfold stp at this
  rw [hU,if_neg (by decide),if_pos rfl] at this
  cases h1:p t.2.1 <;> cases h2:p t.2.2.1 <;> simp_all
theorem net_closed {ts:List (T ν)} {U:Int→Bool} {p:ν→Bool} (h:Closed ts U p):net ts U p=((cutOf ts p).length:Int):=by
 unfold cutOf
 induction ts with
 | nil=>rfl
 | cons t ts ih=>
  rw [net_cons,List.filter_cons,ih (fun u hu=>h u (List.mem_cons_of_mem _ hu)),closed_term (h t (List.mem_cons_self ..))]
  cases cutB p t with
  | true=>
   rw [if_pos rfl,List.length_cons]
   have h1:b2 true=1:=rfl
   omega
  | false=>
   rw [if_neg (by decide)]
   have h1:b2 false=0:=rfl
   omega
theorem Flow.cut {ts:List (T ν)} {U:Int→Bool} {h g:ν} {v:Int} {p:ν→Bool} (F:Flow ts U h g v) (hc:Closed ts U p) (hh:p h=true) (hg:p g=false):((cutOf ts p).length:Int)=v:=by
 have:=F p
 rw [net_closed hc,hh,hg] at this
 rw [this]
 show v * (1 - 0)=v
 omega
theorem Flow.le {ts:List (T ν)} {U:Int→Bool} {h g:ν} {v:Int} {p:ν→Bool} (F:Flow ts U h g v) (hh:p h=true) (hg:p g=false):v ≤ ((cutOf ts p).length:Int):=by
 have:=net_le ts U p
 rw [F p,hh,hg] at this
 have e:v * (b2 true - b2 false)=v:=by show v * (1 - 0)=v; omega
 rw [e] at this
 exact this
inductive Wlk (ts : List (T ν)) : ν → List (T ν) → ν → Prop
  | nil (x : ν) : Wlk ts x [] x
  | snoc {x : ν} {ws : List (T ν)} {t : T ν} : Wlk ts x ws t.2.1 → t ∈ ts → Wlk ts x (ws ++ [t]) t.2.2.1
def nums (ws:List (T ν)):List Int:=ws.map (·.1)
theorem Wlk.sub {ts:List (T ν)} {x y:ν} {ws:List (T ν)} (W:Wlk ts x ws y):∀ t ∈ ws,t ∈ ts:=by
 induction W with
 | nil=>exact fun t ht=>nomatch ht
 | snoc W ht ih=>
  intro t h
  rcases List.mem_append.mp h with h | h
  ·exact ih t h
  ·rw [List.mem_singleton.mp h]; exact ht
theorem Wlk.up {ts:List (T ν)} {rk:ν→Nat} (hr:∀ t ∈ ts,rk t.2.1 < rk t.2.2.1) {x y:ν} {ws:List (T ν)} (W:Wlk ts x ws y):rk x + ws.length ≤ rk y∧(∀ t ∈ ws,rk t.2.1 < rk y)∧ws.Nodup:=by
 induction W with
 | nil=>exact ⟨Nat.le_refl _,(fun t ht=>nomatch ht),List.nodup_nil⟩
 | @snoc ws t W ht ih=>
  have:=hr _ ht
  obtain ⟨i1,i2,i3⟩:=ih
  refine ⟨by rw [List.length_append,List.length_singleton]; omega,fun u hu=>?_,?_⟩
  ·rcases List.mem_append.mp hu with hu | hu
   ·have:=i2 u hu; omega
   ·rw [List.mem_singleton.mp hu]; exact this
  ·refine List.nodup_append.mpr ⟨i3,by simp,fun a ha b hb e=>?_⟩
   have eb:=List.mem_singleton.mp hb
   subst eb
   subst e
   have:=i2 a ha
   omega
theorem nums_nodup {ts ws:List (T ν)} (nd:Nums ts) (hs:∀ t ∈ ws,t ∈ ts) (h:ws.Nodup):(nums ws).Nodup:=by
 induction ws with
 | nil=>exact List.nodup_nil
 | cons a ws ih=>
  obtain ⟨h1,h2⟩:=List.nodup_cons.mp h
  refine List.nodup_cons.mpr ⟨fun z=>?_,ih (fun t ht=>hs t (List.mem_cons_of_mem _ ht)) h2⟩
  obtain ⟨u,hu,e⟩:=List.mem_map.mp z
  have:=nd.inj (hs u (List.mem_cons_of_mem _ hu)) (hs a (List.mem_cons_self ..)) e
  exact h1 (this ▸ hu)
def without (U:Int→Bool) (ks:List Int):Int→Bool:=fun k=>U k && !decide (k ∈ ks)
theorem net_without {ts:List (T ν)} (nd:Nums ts) {U:Int→Bool} (p:ν→Bool) {x y:ν} {ws:List (T ν)} (W:Wlk (ts.filter fun t=>U t.1) x ws y) (hn:(nums ws).Nodup):
  net ts (without U (nums ws)) p=net ts U p - b2 (p x) + b2 (p y):=by
 induction W with
 | nil=>
  rw [net_congr (V:=U) p fun t _=>by simp [without,nums]]
  omega
 | @snoc ws t W ht ih=>
  have hn':(nums ws ++ [t.1]).Nodup:=by
   have:nums (ws ++ [t])=nums ws ++ [t.1]:=List.map_append
   rw [this] at hn
   exact hn
  obtain ⟨n1,_,n3⟩:=List.nodup_append.mp hn'
  have hnew:¬ t.1 ∈ nums ws:=fun z=>n3 t.1 z t.1 (List.mem_singleton.mpr rfl) rfl
  have hts:=(List.mem_filter.mp ht).1
  have hU:U t.1=true:=(List.mem_filter.mp ht).2
  have hV:without U (nums ws) t.1=true:=by unfold without; rw [hU,decide_eq_false hnew]; rfl
  have hs:stp t t.2.2.1 (without U (nums ws))=some t.2.1:=by unfold stp; rw [hV,if_pos rfl,if_pos rfl]
  have e:net ts (without U (nums (ws ++ [t]))) p=net ts (flip (without U (nums ws)) t.1) p:=net_congr p fun u _=>by
   have e2:nums (ws ++ [t])=nums ws ++ [t.1]:=List.map_append
   by_cases hu:u.1=t.1
   ·rw [hu,flip_same,hV]
    unfold without
    rw [e2,decide_eq_true (by simp)]
    simp
   ·rw [flip_ne _ hu]
    unfold without
    rw [e2]
    simp [hu]
  rw [e,net_flip nd hts hs,ih n1]
  omega
theorem Flow.without {ts:List (T ν)} (nd:Nums ts) {U:Int→Bool} {h g:ν} {v:Int} (F:Flow ts U h g v) {ws:List (T ν)} (W:Wlk (ts.filter fun t=>U t.1) h ws g) (hn:(nums ws).Nodup):Flow ts (Wy.without U (nums ws)) h g (v - 1):=fun p=>by
 rw [net_without nd p W hn,F p,Int.sub_mul,Int.one_mul]
 omega
theorem out_of {ts:List (T ν)} {U:Int→Bool} {x:ν} (h:0 ≤ net ts U (fun z=>decide (z=x))) (hi:0 < net ts U (fun z=>decide (z=x)) ∨ ∃ t ∈ ts,U t.1=true∧t.2.2.1=x∧t.2.1 ≠ x):∃ t ∈ ts,U t.1=true∧t.2.1=x:=by
 by_cases hx:∃ t ∈ ts,U t.1=true∧t.2.1=x
 ·exact hx
 ·exfalso
  have key:∀ ts:List (T ν),(∀ t ∈ ts,¬ (U t.1=true∧t.2.1=x))→net ts U (fun z=>decide (z=x)) ≤ 0∧((∃ t ∈ ts,U t.1=true∧t.2.2.1=x∧t.2.1 ≠ x)→net ts U (fun z=>decide (z=x)) < 0):=by
   intro ts hts
   induction ts with
   | nil=>exact ⟨Int.le_refl _,fun ⟨t,ht,_⟩=>nomatch ht⟩
   | cons a ts ih=>
    obtain ⟨i1,i2⟩:=ih fun t ht=>hts t (List.mem_cons_of_mem _ ht)
    have ha:=hts a (List.mem_cons_self ..)
    rw [net_cons]
    have t0:term U (fun z=>decide (z=x)) a ≤ 0:=by
     unfold term
     split
     ·rename_i hU
      show b2 (decide (a.2.1=x)) - b2 (decide (a.2.2.1=x)) ≤ 0
      rw [decide_eq_false (fun e=>ha ⟨hU,e⟩)]
      unfold b2
      cases decide (a.2.2.1=x) <;> decide
     ·exact Int.le_refl _
    refine ⟨by omega,fun ⟨t,ht,h1,h2,h3⟩=>?_⟩
    rcases List.mem_cons.mp ht with rfl | ht
    ·have:term U (fun z=>decide (z=x)) t=-1:=by
      unfold term
      rw [if_pos h1]
      show b2 (decide (t.2.1=x)) - b2 (decide (t.2.2.1=x))=-1
      rw [decide_eq_false h3,decide_eq_true h2]
      rfl
     omega
    ·have:=i2 ⟨t,ht,h1,h2,h3⟩
     omega
  obtain ⟨k1,k2⟩:=key ts fun t ht z=>hx ⟨t,ht,z⟩
  rcases hi with hi | hi
  ·omega
  ·have:=k2 hi; omega
theorem Flow.goes_on {ts:List (T ν)} {U:Int→Bool} {rk:ν→Nat} (hr:∀ t ∈ ts,rk t.2.1 < rk t.2.2.1) {h g x:ν} {v:Int} (F:Flow ts U h g v) (hv:0 < v) (hg:x ≠ g) {ws:List (T ν)} (W:Wlk (ts.filter fun t=>U t.1) h ws x):∃ t ∈ ts,U t.1=true∧t.2.1=x:=by
 have e:=F (fun z=>decide (z=x))
 rw [decide_eq_false (show ¬ g=x from fun z=>hg z.symm)] at e
 by_cases hh:h=x
 ·rw [decide_eq_true hh] at e
  have:net ts U (fun z=>decide (z=x))=v:=by rw [e]; show v * (1 - 0)=v; omega
  exact out_of (by omega) (.inl (by omega))
 ·rw [decide_eq_false hh] at e
  have e0:net ts U (fun z=>decide (z=x))=0:=by rw [e]; show v * (0 - 0)=0; omega
  refine out_of (by omega) (.inr ?_)
  cases W with
  | nil=>exact absurd rfl hh
  | @snoc ws t W ht=>
   have:=hr t (List.mem_filter.mp ht).1
   exact ⟨t,(List.mem_filter.mp ht).1,(List.mem_filter.mp ht).2,rfl,fun z=>by rw [z] at this; omega⟩
end L2.Wy
set_option maxRecDepth 100000
namespace L2.Wy
variable {ν : Type} [DecidableEq ν]
def look (U:Int→Bool) (x:ν):List (T ν)→Cm ν × List ν→Cm ν × List ν
 | [],s=>s
 | t :: r,s=>match stp t x U with
  | some z=>if z ∈ keys s.1 then look U x r s else look U x r (s.1 ++ [(z,some (t.1,x))],s.2 ++ [z])
  | none=>look U x r s
def touch (ts:List (T ν)) (x:ν):List (T ν):=ts.filter fun t=>decide (t.2.1=x) || decide (t.2.2.1=x)
def bfs (ts:List (T ν)) (U:Int→Bool):Nat→Cm ν × List ν→Cm ν
 | 0,s=>s.1
 | n + 1,s=>match s.2 with
  | []=>s.1
  | x :: w=>bfs ts U n (look U x (touch ts x) (s.1,w))
def reach (ts:List (T ν)) (U:Int→Bool) (N:Nat):Option ν→Cm ν
 | none=>[]
 | some h=>bfs ts U N ([(h,none)],[h])
structure Bf (ts : List (T ν)) (U : Int → Bool) (h : ν) (c : Cm ν) (d w : List ν) : Prop where
  came : Came ts U h c
  ks : keys c = d ++ w
  done : ∀ x ∈ d, ∀ t ∈ ts, ∀ z, stp t x U = some z → z ∈ keys c
theorem Bf.start (ts:List (T ν)) (U:Int→Bool) (h:ν):Bf ts U h [(h,none)] [] [h]:=⟨.one,rfl,fun x hx=>nomatch hx⟩
theorem look_ok {ts:List (T ν)} {U:Int→Bool} {h x:ν} {d:List ν}:∀ (r:List (T ν)) (s:Cm ν × List ν),(∀ t ∈ r,t ∈ ts)→Came ts U h s.1→keys s.1=d ++ s.2→x ∈ d→
  Came ts U h (look U x r s).1∧keys (look U x r s).1=d ++ (look U x r s).2∧(∀ z ∈ keys s.1,z ∈ keys (look U x r s).1)∧∀ t ∈ r,∀ z,stp t x U=some z→z ∈ keys (look U x r s).1
 | [],s,_,C,k,_=>⟨C,k,fun z hz=>hz,fun t ht=>nomatch ht⟩
 | t :: r,s,hr,C,k,hx=>by
  have hr':∀ t ∈ r,t ∈ ts:=fun u hu=>hr u (List.mem_cons_of_mem _ hu)
  unfold look
  cases hs:stp t x U with
  | none=>
   obtain ⟨a,b,c,e⟩:=look_ok r s hr' C k hx
   refine ⟨a,b,c,fun u hu z hz=>?_⟩
   rcases List.mem_cons.mp hu with rfl | hu
   ·rw [hs] at hz; cases hz
   ·exact e u hu z hz
  | some y=>
   show Came ts U h (if y ∈ keys s.1 then look U x r s else _).1∧_
   by_cases hy:y ∈ keys s.1
   ·simp only [if_pos hy]
    obtain ⟨a,b,c,e⟩:=look_ok r s hr' C k hx
    refine ⟨a,b,c,fun u hu z hz=>?_⟩
    rcases List.mem_cons.mp hu with rfl | hu
    ·rw [hs] at hz; cases hz; exact c _ hy
    ·exact e u hu z hz
   ·simp only [if_neg hy]
    have C':Came ts U h (s.1 ++ [(y,some (t.1,x))]):=.snoc C (by rw [k]; exact List.mem_append_left _ hx) (hr t (List.mem_cons_self ..)) hs hy
    have k':keys (s.1 ++ [(y,some (t.1,x))])=d ++ (s.2 ++ [y]):=by rw [keys_append,k,List.append_assoc]; rfl
    obtain ⟨a,b,c,e⟩:=look_ok r (s.1 ++ [(y,some (t.1,x))],s.2 ++ [y]) hr' C' k' hx
    have hyk:y ∈ keys (s.1 ++ [(y,some (t.1,x))]):=by rw [keys_append]; exact List.mem_append_right _ (by simp [keys])
    refine ⟨a,b,fun z hz=>c z (by rw [keys_append]; exact List.mem_append_left _ hz),fun u hu z hz=>?_⟩
    rcases List.mem_cons.mp hu with rfl | hu
    ·rw [hs] at hz; cases hz; exact c _ hyk
    ·exact e u hu z hz
theorem stp_touch {t:T ν} {U:Int→Bool} {x z:ν} (h:stp t x U=some z):t.2.1=x ∨ t.2.2.1=x:=by
 unfold stp at h
 split at h
 ·split at h
  ·exact .inr (by assumption)
  ·cases h
 ·split at h
  ·exact .inl (by assumption)
  ·cases h
theorem Bf.step {ts:List (T ν)} {U:Int→Bool} {h x:ν} {c:Cm ν} {d w:List ν} (B:Bf ts U h c d (x :: w)):Bf ts U h (look U x (touch ts x) (c,w)).1 (d ++ [x]) (look U x (touch ts x) (c,w)).2:=by
 obtain ⟨a,b,m,e⟩:=look_ok (U:=U) (h:=h) (x:=x) (d:=d ++ [x]) (touch ts x) (c,w) (fun t ht=>(List.mem_filter.mp ht).1) B.came (by rw [B.ks]; simp) (by simp)
 refine ⟨a,b,fun y hy t ht z hz=>?_⟩
 rcases List.mem_append.mp hy with hy | hy
 ·exact m z (B.done y hy t ht z hz)
 ·have hyx:=List.mem_singleton.mp hy
  rw [hyx] at hz
  refine e t (List.mem_filter.mpr ⟨ht,?_⟩) z hz
  rw [Bool.or_eq_true]
  rcases stp_touch hz with h | h
  ·exact .inl (decide_eq_true h)
  ·exact .inr (decide_eq_true h)
def Ends (ts:List (T ν)) (nm:List ν):Prop:=∀ t ∈ ts,t.2.1 ∈ nm∧t.2.2.1 ∈ nm
theorem stp_mem {t:T ν} {U:Int→Bool} {x z:ν} (h:stp t x U=some z):z=t.2.1 ∨ z=t.2.2.1:=by
 unfold stp at h
 split at h
 ·split at h
  ·cases h; exact .inl rfl
  ·cases h
 ·split at h
  ·cases h; exact .inr rfl
  ·cases h
theorem Came.names {ts:List (T ν)} {U:Int→Bool} {h:ν} {c:Cm ν} {nm:List ν} (C:Came ts U h c) (E:Ends ts nm) (hh:h ∈ nm):∀ z ∈ keys c,z ∈ nm:=by
 induction C with
 | one=>intro z hz; rw [List.mem_singleton.mp hz]; exact hh
 | snoc C hx ht hs hy ih=>
  intro z hz
  rw [keys_append] at hz
  rcases List.mem_append.mp hz with hz | hz
  ·exact ih z hz
  ·rw [List.mem_singleton.mp hz]
   rcases stp_mem hs with e | e
   ·rw [e]; exact (E _ ht).1
   ·rw [e]; exact (E _ ht).2
theorem sub_len {xs ys:List ν} (nd:xs.Nodup) (h:∀ x ∈ xs,x ∈ ys):xs.length ≤ ys.length:=by
 induction xs generalizing ys with
 | nil=>exact Nat.zero_le _
 | cons a xs ih=>
  obtain ⟨n1,n2⟩:=List.nodup_cons.mp nd
  have ha:=h a (List.mem_cons_self ..)
  have:=ih (ys:=ys.erase a) n2 fun x hx=>(List.mem_erase_of_ne (fun e=>n1 (by rw [← e]; exact hx))).mpr (h x (List.mem_cons_of_mem _ hx))
  rw [List.length_erase_of_mem ha] at this
  have:=List.length_pos_of_mem ha
  rw [List.length_cons]
  omega
theorem Bf.len {ts:List (T ν)} {U:Int→Bool} {h:ν} {c:Cm ν} {d w nm:List ν} (B:Bf ts U h c d w) (E:Ends ts nm) (hh:h ∈ nm):d.length + w.length ≤ nm.length∧c.length ≤ nm.length:=by
 have:=sub_len B.came.nd (B.came.names E hh)
 have e:(keys c).length=c.length:=List.length_map _
 have e2:=congrArg List.length B.ks
 rw [List.length_append] at e2
 omega
structure Rea (ts : List (T ν)) (U : Int → Bool) (h : ν) (c : Cm ν) : Prop where
  came : Came ts U h c
  all : ∀ x ∈ keys c, ∀ t ∈ ts, ∀ z, stp t x U = some z → z ∈ keys c
theorem bfs_ok {ts:List (T ν)} {U:Int→Bool} {h:ν} {nm:List ν} (E:Ends ts nm) (hh:h ∈ nm):∀ (n:Nat) (c:Cm ν) (d w:List ν),Bf ts U h c d w→nm.length ≤ n + d.length→Rea ts U h (bfs ts U n (c,w))
 | 0,c,d,w,B,hn=>by
  have hl:=(B.len E hh).1
  have hw:w=[]:=List.length_eq_zero_iff.mp (by omega)
  subst hw
  exact ⟨B.came,fun x hx=>B.done x (by have:=B.ks; rw [List.append_nil] at this; rw [← this]; exact hx)⟩
 | n + 1,c,d,[],B,hn=>⟨B.came,fun x hx=>B.done x (by have:=B.ks; rw [List.append_nil] at this; rw [← this]; exact hx)⟩
 | n + 1,c,d,x :: w,B,hn=>bfs_ok E hh n _ (d ++ [x]) _ B.step (by rw [List.length_append,List.length_singleton]; omega)
theorem reach_ok {ts:List (T ν)} {U:Int→Bool} {h:ν} {nm:List ν} (E:Ends ts nm) (hh:h ∈ nm) {N:Nat} (hN:nm.length ≤ N):Rea ts U h (reach ts U N (some h)):=bfs_ok E hh N _ [] [h] (Bf.start ts U h) (by simpa using hN)
theorem Rea.closed {ts:List (T ν)} {U:Int→Bool} {h:ν} {c:Cm ν} (R:Rea ts U h c):Closed ts U (fun z=>decide (z ∈ keys c)):=fun t ht x z hx hs=>decide_eq_true (R.all x (of_decide_eq_true hx) t ht z hs)
def tog (U:List Int) (k:Int):List Int:=if k ∈ U then U.filter (fun j=>!decide (j=k)) else U ++ [k]
def inU (U:List Int):Int→Bool:=fun k=>decide (k ∈ U)
theorem tog_in (U:List Int) (k:Int):inU (tog U k)=flip (inU U) k:=by
 funext j
 unfold inU tog flip
 by_cases hk:k ∈ U
 ·rw [if_pos hk]
  by_cases hj:j=k
  ·subst hj
   rw [if_pos rfl]
   show _=!decide (j ∈ U)
   rw [decide_eq_true hk]
   simp
  ·rw [if_neg hj]
   simp [hj]
 ·rw [if_neg hk]
  by_cases hj:j=k
  ·subst hj
   rw [if_pos rfl]
   show _=!decide (j ∈ U)
   rw [decide_eq_false hk]
   simp
  ·rw [if_neg hj]
   simp [hj]
theorem tog_nodup {U:List Int} (h:U.Nodup) (k:Int):(tog U k).Nodup:=by
 unfold tog
 split
 ·exact h.filter _
 ·rename_i hk
  refine List.nodup_append.mpr ⟨h,by simp,fun a ha b hb e=>?_⟩
  rw [List.mem_singleton.mp hb] at e
  exact hk (e ▸ ha)
def stepOf (c:Cm ν) (y:ν):Option (Int × ν):=(c.find? fun q=>decide (q.1=y)).bind (·.2)
theorem stepOf_at {c pre post:Cm ν} {y:ν} {s:Option (Int × ν)} (nd:(keys c).Nodup) (e:c=pre ++ (y,s) :: post):c.find? (fun q=>decide (q.1=y))=some (y,s)∧stepOf c y=s:=by
 have h1:c.find? (fun q=>decide (q.1=y))=some (y,s):=by
  rw [e,keys_append] at nd
  have hno:pre.find? (fun q=>decide (q.1=y))=none:=List.find?_eq_none.mpr fun q hq z=>(List.nodup_append.mp nd).2.2 q.1 (List.mem_map_of_mem hq) y (by simp [keys]) (of_decide_eq_true z)
  rw [e,List.find?_append,hno]
  simp
 refine ⟨h1,?_⟩
 unfold stepOf
 rw [h1]
 rfl
def useF (c:Cm ν):Nat→List Int→Option (Int × ν)→List Int
 | 0,U,_=>U
 | _ + 1,U,none=>U
 | n + 1,U,some s=>useF c n (tog U s.1) (stepOf c s.2)
theorem useF_some (c:Cm ν) (n:Nat) (U:List Int) (k:Int) (x:ν):useF c (n + 1) U (some (k,x))=useF c n (tog U k) (stepOf c x):=rfl
theorem Back.look {ts:List (T ν)} {U V:Int→Bool} {h g y:ν} {c:Cm ν} {s:Option (Int × ν)} {n:Nat} (C:Came ts U h c) (B:Back ts U g c V y s n):stepOf c y=s∧c.find? (fun q=>decide (q.1=y))=some (y,s)∧n < c.length:=by
 obtain ⟨pre,post,e,hn,_⟩:=B.at'
 obtain ⟨h1,h2⟩:=stepOf_at C.nd e
 refine ⟨h2,h1,?_⟩
 rw [e,List.length_append,List.length_cons]
 omega
theorem useF_ok {ts:List (T ν)} {U:Int→Bool} {h g:ν} {c:Cm ν} {v:Int} (nd:Nums ts) (C:Came ts U h c) (F:Flow ts U h g v):∀ (n m:Nat) (V:List Int) (y:ν) (s:Option (Int × ν)),Back ts U g c (inU V) y s m→m < n→V.Nodup→Flow ts (inU (useF c n V s)) h g (v + 1)∧(useF c n V s).Nodup
 | 0,m,V,y,s,B,hm,_=>absurd hm (Nat.not_lt_zero _)
 | n + 1,m,V,y,none,B,hm,hV=>⟨B.stop C F,hV⟩
 | n + 1,m,V,y,some (k,x),B,hm,hV=>by
  obtain ⟨s',m',hlt,B'⟩:=B.step nd C
  rw [← tog_in] at B'
  have e:=(B'.look C).1
  rw [useF_some,e]
  exact useF_ok nd C F n m' (tog V k) x s' B' (by omega) (tog_nodup hV k)
theorem useF_flow {ts:List (T ν)} {U:List Int} {h g:ν} {c:Cm ν} {v:Int} (nd:Nums ts) (C:Came ts (inU U) h c) (F:Flow ts (inU U) h g v) (hg:g ∈ keys c) (hU:U.Nodup) {n:Nat} (hn:c.length ≤ n):Flow ts (inU (useF c n U (stepOf c g))) h g (v + 1)∧(useF c n U (stepOf c g)).Nodup:=by
 obtain ⟨pre,s,post,e⟩:=mem_split hg
 have B:=Back.start (ts:=ts) (U:=inU U) e
 rw [(B.look C).1]
 exact useF_ok nd C F n _ U g s B (Nat.lt_of_lt_of_le (B.look C).2.2 hn) hU
def cutK (ts:List (T ν)) (c:Cm ν):List Int:=nums (cutOf ts fun z=>decide (z ∈ keys c))
def waysF (ts:List (T ν)) (h:Option ν) (g:ν) (N:Nat):Nat→List Int→Sum (List Int) (List Int)
 | 0,U=>.inr U
 | m + 1,U=>if g ∈ keys (reach ts (inU U) N h) then waysF ts h g N m (useF (reach ts (inU U) N h) N U (stepOf (reach ts (inU U) N h) g)) else .inl (cutK ts (reach ts (inU U) N h))
theorem waysF_succ (ts:List (T ν)) (h:Option ν) (g:ν) (N m:Nat) (U:List Int):waysF ts h g N (m + 1) U=if g ∈ keys (reach ts (inU U) N h) then waysF ts h g N m (useF (reach ts (inU U) N h) N U (stepOf (reach ts (inU U) N h) g)) else .inl (cutK ts (reach ts (inU U) N h)):=rfl
structure CutOk (ts : List (T ν)) (h g : ν) (U : List Int) (ks : List Int) (p : ν → Bool) : Prop where
  closed : Closed ts (inU U) p
  hh : p h = true
  hg : p g = false
  ks : ks = nums (cutOf ts p)
theorem waysF_ok {ts:List (T ν)} {h g:ν} {nm:List ν} (nd:Nums ts) (E:Ends ts nm) (hh:h ∈ nm) {N:Nat} (hN:nm.length ≤ N):∀ (m:Nat) (U:List Int) (v:Int),Flow ts (inU U) h g v→U.Nodup→
  (∀ V,waysF ts (some h) g N m U=.inr V→Flow ts (inU V) h g (v + m)∧V.Nodup)∧
  (∀ ks,waysF ts (some h) g N m U=.inl ks→∃ (i:Nat) (V:List Int) (p:ν→Bool),i < m∧waysF ts (some h) g N i U=.inr V∧Flow ts (inU V) h g (v + i)∧CutOk ts h g V ks p∧(ks.length:Int)=v + i)
 | 0,U,v,F,hU=>⟨fun V e=>by cases e; exact ⟨by simpa using F,hU⟩,fun ks e=>by cases e⟩
 | m + 1,U,v,F,hU=>by
  have R:=reach_ok (U:=inU U) E hh hN
  rw [waysF_succ]
  generalize hc:reach ts (inU U) N (some h)=c at R
  have cl:c.length ≤ N:=by
   have:=sub_len R.came.nd (R.came.names E hh)
   have e:(keys c).length=c.length:=List.length_map _
   omega
  by_cases hg:g ∈ keys c
  ·rw [if_pos hg]
   obtain ⟨F',hU'⟩:=useF_flow nd R.came F hg hU cl
   obtain ⟨a,b⟩:=waysF_ok nd E hh hN m _ (v + 1) F' hU'
   refine ⟨fun V e=>?_,fun ks e=>?_⟩
   ·have:=a V e
    rw [show v + ((m + 1:Nat):Int)=v + 1 + (m:Int) by omega]
    exact this
   ·obtain ⟨i,V,p,hi,e1,e2,e3,e4⟩:=b ks e
    refine ⟨i + 1,V,p,by omega,?_,?_,e3,by omega⟩
    ·rw [waysF_succ,hc,if_pos hg]
     exact e1
    ·rw [show v + ((i + 1:Nat):Int)=v + 1 + (i:Int) by omega]
     exact e2
  ·rw [if_neg hg]
   refine ⟨(fun V e=>by cases e),fun ks e=>?_⟩
   cases e
   have hh':decide (h ∈ keys c)=true:=decide_eq_true R.came.home
   have hg':decide (g ∈ keys c)=false:=decide_eq_false hg
   refine ⟨0,U,fun z=>decide (z ∈ keys c),by omega,rfl,by simpa using F,⟨R.closed,hh',hg',rfl⟩,?_⟩
   have:=F.cut R.closed hh' hg'
   unfold cutK nums
   rw [List.length_map,this]
   simp
theorem cutK_nil (ts:List (T ν)):cutK ts ([]:Cm ν)=[]:=by
 unfold cutK nums cutOf
 rw [List.filter_eq_nil_iff.mpr]
 ·rfl
 ·intro t _
  unfold cutB
  simp [keys]
def outOf (L:List (T ν)) (x:ν):Option (T ν):=L.find? fun t=>decide (t.2.1=x)
def oneF (L:List (T ν)) (g:ν):Nat→ν→List (T ν)
 | 0,_=>[]
 | n + 1,x=>if x=g then [] else match outOf L x with
  | none=>[]
  | some t=>t :: oneF L g n t.2.2.1
theorem oneF_succ (L:List (T ν)) (g x:ν) (n:Nat):oneF L g (n + 1) x=if x=g then [] else match outOf L x with
  | none=>[]
  | some t=>t :: oneF L g n t.2.2.1:=by
 conv=>lhs; unfold oneF
theorem oneF_next {L:List (T ν)} {g x:ν} {n:Nat} {t:T ν} (h:¬ x=g) (ho:outOf L x=some t):oneF L g (n + 1) x=t :: oneF L g n t.2.2.1:=by
 rw [oneF_succ,if_neg h,ho]
theorem oneF_none {L:List (T ν)} {g x:ν} {n:Nat} (h:¬ x=g) (ho:outOf L x=none):oneF L g (n + 1) x=[]:=by
 rw [oneF_succ,if_neg h,ho]
theorem oneF_goal {L:List (T ν)} {g x:ν} {n:Nat} (h:x=g):oneF L g n x=[]:=by
 cases n with
 | zero=>rfl
 | succ n=>rw [oneF_succ,if_pos h]
theorem out_mem {L:List (T ν)} {x:ν} {t:T ν} (h:outOf L x=some t):t ∈ L∧t.2.1=x:=⟨List.mem_of_find?_eq_some h,by simpa using List.find?_some h⟩
theorem Wlk.trans {ts:List (T ν)} {x y z:ν} {ws vs:List (T ν)} (A:Wlk ts x ws y) (B:Wlk ts y vs z):Wlk ts x (ws ++ vs) z:=by
 induction B with
 | nil=>rw [List.append_nil]; exact A
 | snoc B ht ih=>rw [← List.append_assoc]; exact .snoc ih ht
theorem oneF_ok {ts:List (T ν)} {U:Int→Bool} {rk:ν→Nat} (hr:∀ t ∈ ts,rk t.2.1 < rk t.2.2.1) {h g:ν} {v:Int} (F:Flow ts U h g v) (hv:0 < v) {N:Nat} (hN:∀ z,rk z < N):∀ (n:Nat) (x:ν) (ws:List (T ν)),Wlk (ts.filter fun t=>U t.1) h ws x→N ≤ n + rk x→Wlk (ts.filter fun t=>U t.1) h (ws ++ oneF (ts.filter fun t=>U t.1) g n x) g
 | 0,x,ws,W,hn=>absurd (hN x) (by omega)
 | n + 1,x,ws,W,hn=>by
  unfold oneF
  by_cases hx:x=g
  ·rw [if_pos hx,List.append_nil,← hx]
   exact W
  ·rw [if_neg hx]
   cases ho:outOf (ts.filter fun t=>U t.1) x with
   | none=>
    obtain ⟨t,ht,hU,e⟩:=F.goes_on hr hv hx W
    exact absurd (decide_eq_true e) (List.find?_eq_none.mp ho t (List.mem_filter.mpr ⟨ht,hU⟩))
   | some t=>
    obtain ⟨h1,h2⟩:=out_mem ho
    subst h2
    have:=hr t (List.mem_filter.mp h1).1
    have:=oneF_ok hr F hv hN n t.2.2.1 (ws ++ [t]) (.snoc W h1) (by omega)
    rw [List.append_assoc] at this
    exact this
def partF (h g:ν) (N:Nat):Nat→List (T ν)→List (List Int)
 | 0,_=>[]
 | m + 1,L=>nums (oneF L g N h) :: partF h g N m (L.filter fun t=>!decide (t.1 ∈ nums (oneF L g N h)))
theorem partF_ok {ts:List (T ν)} (nd:Nums ts) {rk:ν→Nat} (hr:∀ t ∈ ts,rk t.2.1 < rk t.2.2.1) {h g:ν} {N:Nat} (hN:∀ z,rk z < N):∀ (m:Nat) (U:Int→Bool),Flow ts U h g (m:Int)→
  ∃ wss:List (List (T ν)),partF h g N m (ts.filter fun t=>U t.1)=wss.map nums∧wss.length=m∧(∀ ws ∈ wss,Wlk (ts.filter fun t=>U t.1) h ws g)∧(wss.map nums).flatten.Nodup
 | 0,U,F=>⟨[],rfl,rfl,(fun ws hw=>nomatch hw),List.nodup_nil⟩
 | m + 1,U,F=>by
  have W:=oneF_ok hr F (by omega) hN N h [] (.nil h) (by omega)
  rw [List.nil_append] at W
  unfold partF
  generalize oneF (ts.filter fun t=>U t.1) g N h=ws at W
  have up:=W.up (rk:=rk) fun t ht=>hr t (List.mem_filter.mp ht).1
  have hn:=nums_nodup nd (fun t ht=>(List.mem_filter.mp (W.sub t ht)).1) up.2.2
  have F':=F.without nd W hn
  rw [show ((m + 1:Nat):Int) - 1=(m:Int) by omega] at F'
  obtain ⟨wss,e,hl,hw,hnd⟩:=partF_ok nd hr hN m _ F'
  have ef:(ts.filter fun t=>U t.1).filter (fun t=>!decide (t.1 ∈ nums ws))=ts.filter fun t=>Wy.without U (nums ws) t.1:=by
   rw [List.filter_filter]
   refine List.filter_congr fun t _=>?_
   unfold Wy.without
   rw [Bool.and_comm]
  rw [ef,e]
  have hsub:∀ vs ∈ wss,Wlk (ts.filter fun t=>U t.1) h vs g∧∀ k ∈ nums vs,¬ k ∈ nums ws:=fun vs hv=>by
   have V:=hw vs hv
   have:∀ {x y:ν} {vs:List (T ν)},Wlk (ts.filter fun t=>Wy.without U (nums ws) t.1) x vs y→Wlk (ts.filter fun t=>U t.1) x vs y:=by
    intro x y vs V
    induction V with
    | nil=>exact .nil _
    | snoc V ht ih=>
     refine .snoc ih ?_
     obtain ⟨a,b⟩:=List.mem_filter.mp ht
     unfold Wy.without at b
     rw [Bool.and_eq_true] at b
     exact List.mem_filter.mpr ⟨a,b.1⟩
   refine ⟨this V,fun k hk z=>?_⟩
   obtain ⟨t,ht,rfl⟩:=List.mem_map.mp hk
   obtain ⟨a,b⟩:=List.mem_filter.mp (V.sub t ht)
   unfold Wy.without at b
   rw [decide_eq_true z] at b
   simp at b
  refine ⟨ws :: wss,rfl,by rw [List.length_cons,hl],fun vs hv=>?_,?_⟩
  ·rcases List.mem_cons.mp hv with rfl | hv
   ·exact W
   ·exact (hsub vs hv).1
  ·rw [List.map_cons,List.flatten_cons]
   refine List.nodup_append.mpr ⟨hn,hnd,fun a ha b hb eab=>?_⟩
   obtain ⟨l,hl1,hl2⟩:=List.mem_flatten.mp hb
   obtain ⟨vs,hvs,rfl⟩:=List.mem_map.mp hl1
   exact (hsub vs hvs).2 b hl2 (eab ▸ ha)
end L2.Wy
set_option maxRecDepth 100000
namespace L2.Wy
variable {ν : Type} [DecidableEq ν]
theorem flow_nil (ts:List (T ν)) (h g:ν):Flow ts (inU []) h g ((0:Nat):Int):=by
 have e:inU []=fun _=>false:=by
  funext k
  simp [inU]
 rw [e]
 exact Flow.none ts h g
theorem cut_drop {ts:List (T ν)} (nd:Nums ts) (p:ν→Bool) {r:Int} (hr:r ∈ nums (cutOf ts p)):(cutOf (ts.filter fun t=>!decide (t.1=r)) p).length + 1 ≤ (cutOf ts p).length:=by
 unfold cutOf at hr ⊢
 rw [List.filter_filter]
 obtain ⟨t,ht,rfl⟩:=List.mem_map.mp hr
 have:(ts.filter fun u=>cutB p u && !decide (u.1=t.1))=(ts.filter (cutB p)).filter fun u=>!decide (u.1=t.1):=by
  rw [List.filter_filter]
  refine List.filter_congr fun u _=>?_
  rw [Bool.and_comm]
 rw [this]
 have h2:=List.length_filter_lt_length_iff_exists.mpr (⟨t,ht,by simp⟩:∃ x ∈ ts.filter (cutB p),¬ (!decide (x.1=t.1))=true)
 omega
theorem Nums.filter {ts:List (T ν)} (nd:Nums ts) (q:T ν→Bool):Nums (ts.filter q):=List.Nodup.sublist (List.Sublist.map _ (List.filter_sublist)) nd
theorem Ends.filter {ts:List (T ν)} {nm:List ν} (E:Ends ts nm) (q:T ν→Bool):Ends (ts.filter q) nm:=fun t ht=>E t (List.mem_filter.mp ht).1
end L2.Wy
set_option maxRecDepth 100000
namespace K31
open PySem L2
open PyProof.Rows (boot_list boot_int boot_bool boot_tuple boot_str boot_dict boot_all)
def top (i:Nat):Stmt:=PySem.Challenge.pw_mixposts_k31_ways_or_a_cut.main.body.getD i (.Pass ⟨0,0,0,0⟩)
inductive Kd where
  | house | listener | post
deriving DecidableEq
structure Cl where
  net : Addr
  post : Addr
  house : Addr
  lstn : Addr
def Cl.of (c:Cl):Kd→Addr
 | .house=>c.house
 | .listener=>c.lstn
 | .post=>c.post
structure Cl.Ok (K : PySem.W.Frag) (c : Cl) : Prop where
  cn : Cls K c.net
  cp : Cls K c.post
  ch : Cls K c.house
  cl : Cls K c.lstn
  fp : NoAttr K c.net "kept_posts"
  ft : NoAttr K c.net "kept_ties"
  fn : NoAttr K c.net "next_number"
  np : NoAttr K c.post "name"
  nh : NoAttr K c.house "name"
  nl : NoAttr K c.lstn "name"
  ph : c.post ≠ c.house
  pl : c.post ≠ c.lstn
  hl : c.house ≠ c.lstn
def IsPost (c:Cl) (C:Addr):Prop:=∃ k,C=c.of k
theorem Cl.Ok.cls {K:PySem.W.Frag} {c:Cl} (o:Cl.Ok K c):∀ k,Cls K (c.of k)
 | .house=>o.ch
 | .listener=>o.cl
 | .post=>o.cp
theorem Cl.Ok.nam {K:PySem.W.Frag} {c:Cl} (o:Cl.Ok K c):∀ k,NoAttr K (c.of k) "name"
 | .house=>o.nh
 | .listener=>o.nl
 | .post=>o.np
abbrev Tie:=Int × Str × Str × Int
structure NS where
  posts : List (Str × Kd)
  ties : List Tie
  next : Int
def PostAt (c:Cl) (H:Hp) (v:V) (p:Str × Kd):Prop:=∃ a dx,v=.ref a∧H a=some (.ins (c.of p.2) dx [("name",.str p.1)])
def TieAt (H:Hp) (v:V) (t:Tie):Prop:=∃ a,v=.ref a∧H a=some (.tup [.int t.1,.str t.2.1,.str t.2.2.1,.int t.2.2.2])
structure NetAt (c : Cl) (H : Hp) (n dp dt : Addr) (S : NS) : Prop where
  ins : ∃ dx, H n = some (.ins c.net dx [("kept_posts", .ref dp), ("kept_ties", .ref dt), ("next_number", .int S.next)])
  posts : ∃ kvs, H dp = some (.dK kvs) ∧ Paired (fun (kv : Key × V) p => kv.1 = Sum.inr p.1 ∧ PostAt c H kv.2 p) kvs S.posts
  ties : ∃ kvs, H dt = some (.dK kvs) ∧ Paired (fun (kv : Key × V) (t : Tie) => kv.1 = Sum.inl t.1 ∧ TieAt H kv.2 t) kvs S.ties
  ne : dp ≠ dt
theorem PostAt.mono {c:Cl} {H H':Hp} {v:V} {p:Str × Kd} (e:Same H H') (h:PostAt c H v p):PostAt c H' v p:=let ⟨a,dx,q1,q2⟩:=h; ⟨a,dx,q1,e _ _ q2⟩
theorem TieAt.mono {H H':Hp} {v:V} {t:Tie} (e:Same H H') (h:TieAt H v t):TieAt H' v t:=let ⟨a,q1,q2⟩:=h; ⟨a,q1,e _ _ q2⟩
theorem NetAt.mono {c:Cl} {H H':Hp} {n dp dt:Addr} {S:NS} (e:Same H H') (h:NetAt c H n dp dt S):NetAt c H' n dp dt S:=by
 obtain ⟨⟨dx,h1⟩,⟨kp,h2,p2⟩,⟨kt,h3,p3⟩,h4⟩:=h
 exact ⟨⟨dx,e _ _ h1⟩,⟨kp,e _ _ h2,Paired.mapP p2 fun _ _ ⟨a,b⟩=>⟨a,b.mono e⟩⟩,⟨kt,e _ _ h3,Paired.mapP p3 fun _ _ ⟨a,b⟩=>⟨a,b.mono e⟩⟩,h4⟩
def LET:Str:="abcdefghijklmnopqrstuvwxyz"
def letIn (x:Str):Bool:=!(Builtin.Str.occurrences LET x 0 LET.length 1).isEmpty
def isName (x:Str):Bool:=decide (1 ≤ x.length) && decide (x.length ≤ 8) && (List.range x.cps.size).all fun i=>letIn (sgn x i)
structure TxtL (mg : Str → Option Value) : Prop where
  n_len : mg "len" = none
  n_isinstance : mg "isinstance" = none
  n_str : mg "str" = none
  n_all : mg "all" = none
  n_list : mg "list" = none
structure TxtG (mg : Str → Option Value) : Prop where
  let_ : ∃ t, mg "LETTERS" = some (.str LET t)
  lon : ∃ t, mg "LONGEST_NAME" = some (.int 8 t)
  mop : ∃ t, mg "MOST_POSTS" = some (.int 20 t)
  mol : ∃ t, mg "MOST_LISTENERS" = some (.int 8 t)
structure TxtK (K : PySem.W.Frag) : Prop where
  ss : PySem.W.kitOne K (.type "str") (.type "str") = some true
theorem compV_str {js:List Nat} {te:TE} {σ:St} {H:Hp} {F:Addr→Hp→Prop} {x:Str} (g:Nat→V) (hz:x.cps.size ≤ 1000)
  (hs:∀ i H2,i < x.cps.size→Same H H2→te (some (.str (sgn x i)) :: caps σ js) H2 fun v H5=>v=g i∧Same H2 H5)
  (hd:∀ l H',H l=none→Same H H'→H' l=some (.lst ((List.range x.cps.size).map g))→F l H'):compRd 1 js (gName 0) tYes te σ F (Its x) H:=by
 intro l hl0
 refine ⟨fun i m σ' H2=>m=x.cps.size - i∧i ≤ x.cps.size∧(∃ o,σ'=o :: caps σ js)∧Same H H2∧H2 l=some (.lst ((List.range i).map g)),⟨x.cps.size,by simp,Nat.zero_le _,⟨none,rfl⟩,same_upd (Same.refl _) hl0,upd_same⟩,?_⟩
 rintro i m σ' H2 ⟨rfl,hi,⟨o,rfl⟩,e,hl⟩
 by_cases hlt:i < x.cps.size
 ·refine .inr ⟨hlt,fun v H3 y=>?_⟩
  obtain ⟨rfl,rfl⟩:=y
  refine ⟨fun _=>False,fun v H5=>v=g i∧Same H3 H5,fun H4 p4=>p4.elim,fun v H5 ⟨ev,e5⟩=>?_,hs i H3 hlt e⟩
  subst ev
  refine ⟨_,e5 _ _ hl,by simp only [List.length_map,List.length_range]; exact Nat.lt_of_lt_of_le hlt (Nat.le_trans hz (by decide)),_,?_,rfl,hlt,⟨_,rfl⟩,same_new (e.trans e5) hl0,?_⟩
  ·omega
  ·rw [upd_same,List.range_succ,List.map_append]; rfl
 ·have ei:i=x.cps.size:=by omega
  subst ei
  exact .inl ⟨rfl,hd l H2 hl0 e hl⟩
section
variable {P : Program} {w : World} {K : PySem.W.Frag} {mg : Str → Option Value} {base : Heap}
def sp_is_name:Sp:=fun vs H Q _=>∃ x:Str,vs=[.str x]∧x.length ≤ 1000∧∀ H',Same H H'→Q (.bl (isName x)) H'
abbrev s_is_name:Stmt:=top 29
theorem sc_is_name:FnScope ["name"] ["name"] (defScope s_is_name):=⟨rfl,rfl,rfl,by decide +kernel,rfl,by decide +kernel,by decide +kernel⟩
theorem ok_is_name {f:Addr} {fd:FuncData} (F:Fun K "is_name" "is_name" s_is_name f fd) (T:TxtL mg) (TG:TxtG mg) (TK:TxtK K):FnOk P w K mg base CX0 1 f fd ["name"] sp_is_name:=by
 obtain ⟨tl,hg_LETTERS⟩:=TG.let_
 obtain ⟨tn,hg_LONGEST_NAME⟩:=TG.lon
 refine F.ok sc_is_name (fun vs H Q E h=>?_) (fun cdv A outer s H vs Q E hr h=>?_)
 ·obtain ⟨x,rfl,_⟩:=h
  rfl
 ·obtain ⟨x,rfl,hx,q⟩:=h
  have ND:=sc_is_name.nd
  refine ⟨_,(pss_cons (ps_if (pt_not (pt_val (pe_callB (isiK K) rfl T.n_isinstance boot_isinstance (pa_cons (pv 0) (pa_cons (pe_bltn (v:=.ty "str") rfl T.n_str boot_str rfl) pa_nil)))))
  (pss_one (ps_ret pe_bl))
  pss_nil)
 (pss_one (ps_ret (pe_and (pe_chain op_le op_le pe_int (pe_callB call_len_str rfl T.n_len boot_len (pa_cons (pv 0) pa_nil)) (pe_glob (v:=.int 8) rfl hg_LONGEST_NAME ⟨_,rfl⟩)) (pe_one (pe_callB (call_allB K rfl) rfl T.n_all boot_all (pa_cons (pe_comp rfl (compScope_of (nT:=1) (js:=[]) (N':=["sign"]) rfl rfl (by kernel_rfl)) (pi_str (pv 0))
  (fun _ _ _ _ _=>(pg_name (i:=0) (show List.Nodup (["sign"]:List Str) by decide +kernel) rfl (by first | exact Or.inl rfl | exact Or.inr rfl)))
  (fun _ _ _ _ _=>pif_nil)
  (fun _ _ _ _ _=>(pe_cmpR op_in_str (pv 0) (pe_glob (v:=.str LET) rfl hg_LETTERS ⟨_,rfl⟩) (by with_unfolding_all rfl)))) pa_nil))))))),?_⟩
  have hxs:x.cps.size=x.length:=rfl
  refine ⟨_,rfl,.str x,_,_,_,rfl,.str x,TK.ss,_,rfl,iteF ?_⟩
  have qb:isName x=(decide (1 ≤ x.length) && decide (x.length ≤ 8) && ((List.range x.cps.size).map fun i=>letIn (sgn x i)).all id):=by
   unfold isName
   rw [List.all_map]
   rfl
  refine ⟨_,rfl,x,rfl,Nat.le_trans hx (by decide),?_⟩
  refine ⟨_,_,rfl,rfl,_,rfl,ite2 (fun h1=>?_) (fun h1=>?_)⟩
  ·have h1:1 ≤ x.length:=by have:=of_decide_eq_true h1; omega
   refine ⟨_,_,rfl,rfl,_,rfl,ite2 (fun h2=>?_) (fun h2=>?_)⟩
   ·have h2:x.length ≤ 8:=by have:=of_decide_eq_true h2; omega
    refine ⟨_,rfl,x,rfl,compV_str (fun i=>.bl (letIn (sgn x i))) (by omega) (fun i H2 hi e=>⟨_,rfl,_,LET,rfl,rfl,rfl,Same.refl _⟩) (fun l H' hl0 e hl=>?_)⟩
    refine ⟨l,(List.range x.cps.size).map fun i=>letIn (sgn x i),rfl,SqL.of (by rw [List.map_map]; exact hl),?_⟩
    have:=q H' e
    rw [qb,decide_eq_true h1,decide_eq_true h2] at this
    exact this
   ·have h2:¬ x.length ≤ 8:=fun z=>h2 (decide_eq_true (by omega))
    have:=q H (Same.refl _)
    rw [qb,decide_eq_false h2,Bool.and_false,Bool.false_and] at this
    exact this
  ·have h1:¬ 1 ≤ x.length:=fun z=>h1 (decide_eq_true (by omega))
   have:=q H (Same.refl _)
   rw [qb,decide_eq_false h1,Bool.false_and,Bool.false_and] at this
   exact ⟨_,rfl,iteF this⟩
def sp_const (b:V):Sp:=fun vs H Q _=>∃ v,vs=[v]∧Q b H
abbrev s_Post_reads:Stmt:=inClass (top 33) 3
theorem sc_Post_reads:FnScope ["self"] ["self"] (defScope s_Post_reads):=⟨rfl,rfl,rfl,by decide +kernel,rfl,by decide +kernel,by decide +kernel⟩
theorem ok_Post_reads {f:Addr} {fd:FuncData} (F:Fun K "reads" "Post.reads" s_Post_reads f fd):FnOk P w K mg base CX0 1 f fd ["self"] (sp_const (.bl false)):=by
 refine F.ok sc_Post_reads (fun vs H Q E h=>?_) (fun cdv A outer s H vs Q E hr h=>?_)
 ·obtain ⟨v,rfl,_⟩:=h
  rfl
 ·obtain ⟨v,rfl,q⟩:=h
  exact ⟨_,(pss_one (ps_ret pe_bl)),q⟩
abbrev s_Listener_reads:Stmt:=inClass (top 35) 1
theorem sc_Listener_reads:FnScope ["self"] ["self"] (defScope s_Listener_reads):=⟨rfl,rfl,rfl,by decide +kernel,rfl,by decide +kernel,by decide +kernel⟩
theorem ok_Listener_reads {f:Addr} {fd:FuncData} (F:Fun K "reads" "Listener.reads" s_Listener_reads f fd):FnOk P w K mg base CX0 1 f fd ["self"] (sp_const (.bl true)):=by
 refine F.ok sc_Listener_reads (fun vs H Q E h=>?_) (fun cdv A outer s H vs Q E hr h=>?_)
 ·obtain ⟨v,rfl,_⟩:=h
  rfl
 ·obtain ⟨v,rfl,q⟩:=h
  exact ⟨_,(pss_one (ps_ret pe_bl)),q⟩
abbrev s_Post_hears:Stmt:=inClass (top 33) 4
theorem sc_Post_hears:FnScope ["self"] ["self"] (defScope s_Post_hears):=⟨rfl,rfl,rfl,by decide +kernel,rfl,by decide +kernel,by decide +kernel⟩
theorem ok_Post_hears {f:Addr} {fd:FuncData} (F:Fun K "hears" "Post.hears" s_Post_hears f fd):FnOk P w K mg base CX0 1 f fd ["self"] (sp_const (.bl true)):=by
 refine F.ok sc_Post_hears (fun vs H Q E h=>?_) (fun cdv A outer s H vs Q E hr h=>?_)
 ·obtain ⟨v,rfl,_⟩:=h
  rfl
 ·obtain ⟨v,rfl,q⟩:=h
  exact ⟨_,(pss_one (ps_ret pe_bl)),q⟩
abbrev s_House_hears:Stmt:=inClass (top 34) 1
theorem sc_House_hears:FnScope ["self"] ["self"] (defScope s_House_hears):=⟨rfl,rfl,rfl,by decide +kernel,rfl,by decide +kernel,by decide +kernel⟩
theorem ok_House_hears {f:Addr} {fd:FuncData} (F:Fun K "hears" "House.hears" s_House_hears f fd):FnOk P w K mg base CX0 1 f fd ["self"] (sp_const (.bl false)):=by
 refine F.ok sc_House_hears (fun vs H Q E h=>?_) (fun cdv A outer s H vs Q E hr h=>?_)
 ·obtain ⟨v,rfl,_⟩:=h
  rfl
 ·obtain ⟨v,rfl,q⟩:=h
  exact ⟨_,(pss_one (ps_ret pe_bl)),q⟩
def rdB:Kd→Bool
 | .listener=>true
 | _=>false
def hrB:Kd→Bool
 | .house=>false
 | _=>true
def sp_readsC (c:Cl) (C:Addr):Sp:=sp_const (.bl (decide (C=c.lstn)))
def sp_hearsC (c:Cl) (C:Addr):Sp:=sp_const (.bl (!decide (C=c.house)))
theorem reads_of {c:Cl} (O:Cl.Ok K c):∀ k,decide (c.of k=c.lstn)=rdB k
 | .listener=>decide_eq_true rfl
 | .house=>decide_eq_false O.hl
 | .post=>decide_eq_false O.pl
theorem hears_of {c:Cl} (O:Cl.Ok K c):∀ k,(!decide (c.of k=c.house))=hrB k
 | .house=>by rw [show decide (c.of .house=c.house)=true from decide_eq_true rfl]; rfl
 | .listener=>by rw [show decide (c.of .listener=c.house)=false from decide_eq_false O.hl.symm]; rfl
 | .post=>by rw [show decide (c.of .post=c.house)=false from decide_eq_false O.ph]; rfl
def sp_pinit (c:Cl):Sp:=fun vs H Q _=>∃ (x:Addr) (k:Kd) (dx:Addr) (n:Str),vs=[.ref x,.str n]∧H x=some (.ins (c.of k) dx [])∧Q .non (upd H x (.ins (c.of k) dx [("name",.str n)]))
abbrev s_Post___init__:Stmt:=inClass (top 33) 0
theorem sc_Post___init__:FnScope ["self","name"] ["self","name"] (defScope s_Post___init__):=⟨rfl,rfl,rfl,by decide +kernel,rfl,by decide +kernel,by decide +kernel⟩
theorem ok_Post_init {c:Cl} {f:Addr} {fd:FuncData} (F:Fun K "__init__" "Post.__init__" s_Post___init__ f fd) (O:Cl.Ok K c):FnOk P w K mg base CX0 1 f fd ["self","name"] (sp_pinit c):=by
 refine F.ok sc_Post___init__ (fun vs H Q E h=>?_) (fun cdv A outer s H vs Q E hr h=>?_)
 ·obtain ⟨x,k,dx,n,rfl,_⟩:=h
  rfl
 ·obtain ⟨x,k,dx,n,rfl,hx,q⟩:=h
  refine ⟨_,(pss_one (ps_fld (pv 0) (pv 1) rfl)),?_⟩
  exact ⟨_,rfl,_,rfl,x,c.of k,dx,_,rfl,hx,O.cls k,O.nam k,by decide,q⟩
def sp_ninit (c:Cl):Sp:=fun vs H Q _=>∃ (x dx:Addr),vs=[.ref x]∧H x=some (.ins c.net dx [])∧∀ d1 d2 H',H d1=none→H d2=none→d1 ≠ d2→(∀ a o,a ≠ x→H a=some o→H' a=some o)→
 H' x=some (.ins c.net dx [("kept_posts",.ref d1),("kept_ties",.ref d2),("next_number",.int 0)])→H' d1=some (.dK [])→H' d2=some (.dK [])→Q .non H'
abbrev s_Net___init__:Stmt:=inClass (top 36) 0
theorem sc_Net___init__:FnScope ["self"] ["self"] (defScope s_Net___init__):=⟨rfl,rfl,rfl,by decide +kernel,rfl,by decide +kernel,by decide +kernel⟩
theorem ok_Net_init {c:Cl} {f:Addr} {fd:FuncData} (F:Fun K "__init__" "Net.__init__" s_Net___init__ f fd) (O:Cl.Ok K c):FnOk P w K mg base CX0 1 f fd ["self"] (sp_ninit c):=by
 refine F.ok sc_Net___init__ (fun vs H Q E h=>?_) (fun cdv A outer s H vs Q E hr h=>?_)
 ·obtain ⟨x,dx,rfl,_⟩:=h
  rfl
 ·obtain ⟨x,dx,rfl,hx,q⟩:=h
  refine ⟨_,(pss_cons (ps_fld (pv 0) pe_dnewK rfl)
 (pss_cons (ps_fld (pv 0) pe_dnewK rfl)
 (pss_one (ps_fld (pv 0) pe_int rfl)))),?_⟩
  intro d1 h1
  have n1:x ≠ d1:=ne_of_none hx h1
  refine ⟨_,rfl,x,c.net,dx,_,rfl,by rw [upd_ne n1]; exact hx,O.cn,O.fp,by decide,?_⟩
  intro d2 h2
  have n2:x ≠ d2:=ne_of_none (o:=.ins c.net dx [("kept_posts",.ref d1)]) upd_same h2
  have n3:d1 ≠ d2:=ne_of_none (H:=upd (upd H d1 (.dK [])) x (.ins c.net dx [("kept_posts",.ref d1)])) (o:=.dK []) (by rw [upd_ne n1.symm]; exact upd_same) h2
  refine ⟨_,rfl,x,c.net,dx,_,rfl,by rw [upd_ne n2]; exact upd_same,O.cn,O.ft,(by show 1 < 1000; decide),?_⟩
  refine ⟨_,rfl,x,c.net,dx,_,rfl,upd_same,O.cn,O.fn,(by show 2 < 1000; decide),?_⟩
  have h2':H d2=none:=by
   rw [upd_ne n2.symm,upd_ne n3.symm] at h2
   exact h2
  refine q d1 d2 _ h1 h2' n3 (fun a o na ha=>?_) upd_same ?_ ?_
  ·rw [upd_ne na,upd_ne na,upd_ne (ne_of_none ha h2'),upd_ne na,upd_ne (ne_of_none ha h1)]
   exact ha
  ·rw [upd_ne n1.symm,upd_ne n1.symm,upd_ne n3,upd_ne n1.symm]
   exact upd_same
  ·rw [upd_ne n2.symm,upd_ne n2.symm]
   exact upd_same
end
end K31
set_option maxRecDepth 100000
namespace K31
open PySem L2
open PyProof.Rows (boot_list boot_int boot_bool boot_tuple boot_str boot_dict boot_all)
structure Xc where
  noName : Addr
  taken : Addr
  oneHouse : Addr
  tooMany : Addr
structure TxtX (K : PySem.W.Frag) (mg : Str → Option Value) (x : Xc) : Prop where
  c_NoName : mg "NoName" = some (.ref x.noName)
  x_NoName : PySem.W.excIn K x.noName mroVE "ValueError.__new__" = true
  c_Taken : mg "Taken" = some (.ref x.taken)
  x_Taken : PySem.W.excIn K x.taken mroVE "ValueError.__new__" = true
  c_OneHouse : mg "OneHouse" = some (.ref x.oneHouse)
  x_OneHouse : PySem.W.excIn K x.oneHouse mroVE "ValueError.__new__" = true
  c_TooMany : mg "TooMany" = some (.ref x.tooMany)
  x_TooMany : PySem.W.excIn K x.tooMany mroVE "ValueError.__new__" = true
def NS.names (S:NS):List Str:=S.posts.map (·.1)
section
variable {P : Program} {w : World} {K : PySem.W.Frag} {mg : Str → Option Value} {base : Heap}
theorem val_some {c:Cl} {H:Hp} {x:Str}:∀ {kvs:List (Key × V)} {ps:List (Str × Kd)},Paired (fun (kv:Key × V) p=>kv.1=Sum.inr p.1∧PostAt c H kv.2 p) kvs ps→((valV kvs (Sum.inr x)).isSome=true ↔ x ∈ ps.map (·.1))
 | _,_,.nil=>by simp [valV]
 | kv :: kvs,p :: ps,.cons ⟨e,_⟩ r=>by
  by_cases h:p.1=x
  ·rw [valV_pos (by rw [e,h])]
   simp [h]
  ·rw [valV_neg (by rw [e]; exact fun z=>h (Sum.inr.inj z)),val_some r]
   simp [Ne.symm h]
def sp_cnn (c:Cl) (X:Xc):Sp:=fun vs H Q E=>∃ (n dp dt:Addr) (S:NS) (x:Str),vs=[.ref n,.str x]∧NetAt c H n dp dt S∧x.length ≤ 1000∧
 (isName x=false→∀ H',Same H H'→E (.ref X.noName) none H')∧(isName x=true→x ∈ S.names→∀ H',Same H H'→E (.ref X.taken) none H')∧(isName x=true→¬ x ∈ S.names→∀ H',Same H H'→Q .non H')
abbrev s_Net_check_new_name:Stmt:=inClass (top 36) 4
theorem sc_Net_check_new_name:FnScope ["self","name"] ["self","name"] (defScope s_Net_check_new_name):=⟨rfl,rfl,rfl,by decide +kernel,rfl,by decide +kernel,by decide +kernel⟩
theorem ok_Net_check_new_name {c:Cl} {X:Xc} {f:Addr} {fd:FuncData} (F:Fun K "check_new_name" "Net.check_new_name" s_Net_check_new_name f fd) (O:Cl.Ok K c) (TX:TxtX K mg X) (D_is_name:Df P w K mg base 1 "is_name" ["name"] sp_is_name):FnOk P w K mg base (CXE P w) 2 f fd ["self","name"] (sp_cnn c X):=by
 refine F.okX sc_Net_check_new_name (fun vs H Q E h=>?_) (fun cdv A outer s H vs Q E hr h=>?_)
 ·obtain ⟨n,dp,dt,S,x,rfl,_⟩:=h
  rfl
 ·obtain ⟨n,dp,dt,S,x,rfl,N,hx,q1,q2,q3⟩:=h
  have ND:=sc_Net_check_new_name.nd
  refine ⟨_,(pss_cons (ps_if (pt_not (pt_val (pe_callD D_is_name (hr.mono (by decide)) rfl (pa_cons (pv 1) pa_nil))))
  (pss_one (ps_raise0 rfl made_def rfl TX.c_NoName TX.x_NoName))
  pss_nil)
 (pss_one (ps_if (pt_cmp (pc_din (hu_of hr) (pv 1) (fldK K (pv 0) rfl)))
  (pss_one (ps_raise0 rfl made_def rfl TX.c_Taken TX.x_Taken))
  pss_nil))),?_⟩
  refine ⟨_,rfl,x,rfl,hx,fun H1 e1=>⟨_,rfl,?_⟩⟩
  cases hn:isName x with
  | false=>exact iteT (q1 hn H1 e1)
  | true=>
   refine iteF ?_
   obtain ⟨dx,h1⟩:=(N.mono e1).ins
   obtain ⟨kvs,hd,hp⟩:=(N.mono e1).posts
   refine ⟨_,rfl,_,rfl,n,c.net,dx,_,_,rfl,h1,O.cn,O.fp,rfl,dp,_,rfl,DGet.k (k:=Sum.inr x) hd,_,rfl,?_⟩
   have hv:=val_some (x:=x) hp
   cases hs:(valV kvs (Sum.inr x)).isSome with
   | true=>exact iteT (q2 hn (hv.mp hs) H1 e1)
   | false=>exact iteF (q3 hn (fun z=>by rw [hv.mpr z] at hs; cases hs) H1 e1)
theorem keys_names {c:Cl} {H:Hp}:∀ {kvs:List (Key × V)} {ps:List (Str × Kd)},Paired (fun (kv:Key × V) p=>kv.1=Sum.inr p.1∧PostAt c H kv.2 p) kvs ps→(kvs.map fun kv=>kV kv.1)=(ps.map (·.1)).map V.str
 | _,_,.nil=>rfl
 | _,_,.cons ⟨e,_⟩ r=>by
  simp only [List.map_cons]
  rw [e,keys_names r]
  rfl
def sp_names (c:Cl):Sp:=fun vs H Q _=>∃ (n dp dt:Addr) (S:NS),vs=[.ref n]∧NetAt c H n dp dt S∧∀ l H',Same H H'→H l=none→H' l=some (.lst (S.names.map V.str))→Q (.ref l) H'
abbrev s_Net_names:Stmt:=inClass (top 36) 11
theorem sc_Net_names:FnScope ["self"] ["self"] (defScope s_Net_names):=⟨rfl,rfl,rfl,by decide +kernel,rfl,by decide +kernel,by decide +kernel⟩
theorem ok_Net_names {c:Cl} {f:Addr} {fd:FuncData} (F:Fun K "names" "Net.names" s_Net_names f fd) (O:Cl.Ok K c) (T:TxtL mg):FnOk P w K mg base CX0 1 f fd ["self"] (sp_names c):=by
 refine F.ok sc_Net_names (fun vs H Q E h=>?_) (fun cdv A outer s H vs Q E hr h=>?_)
 ·obtain ⟨n,dp,dt,S,rfl,_⟩:=h
  rfl
 ·obtain ⟨n,dp,dt,S,rfl,N,q⟩:=h
  refine ⟨_,(pss_one (ps_ret (pe_callTy (call_list_dK rfl) rfl T.n_list boot_list (pa_cons (fldK K (pv 0) rfl) pa_nil)))),?_⟩
  obtain ⟨dx,h1⟩:=N.ins
  obtain ⟨kvs,hd,hp⟩:=N.posts
  refine ⟨_,rfl,n,c.net,dx,_,_,rfl,h1,O.cn,O.fp,rfl,dp,kvs,rfl,hd,fun l H' e h0 hl=>q l H' e h0 ?_⟩
  rw [hl,keys_names hp]
  rfl
def NS.lis (S:NS):List Str:=(S.posts.filter fun p=>rdB p.2).map (·.1)
def sp_listeners (c:Cl):Sp:=fun vs H Q _=>∃ (n dp dt:Addr) (S:NS),vs=[.ref n]∧NetAt c H n dp dt S∧S.posts.length ≤ 1000∧∀ l H',Same H H'→H l=none→H' l=some (.lst (S.lis.map V.str))→Q (.ref l) H'
abbrev s_Net_listeners:Stmt:=inClass (top 36) 12
theorem sc_Net_listeners:FnScope ["self"] ["self"] (defScope s_Net_listeners):=⟨rfl,rfl,rfl,by decide +kernel,rfl,by decide +kernel,by decide +kernel⟩
theorem ok_Net_listeners {c:Cl} {f:Addr} {fd:FuncData} (F:Fun K "listeners" "Net.listeners" s_Net_listeners f fd) (O:Cl.Ok K c) (D_reads:∀ C,IsPost c C→Dm P w K mg base 1 C "reads" ["self"] (sp_readsC c C)):FnOk P w K mg base CX0 2 f fd ["self"] (sp_listeners c):=by
 refine F.ok sc_Net_listeners (fun vs H Q E h=>?_) (fun cdv A outer s H vs Q E hr h=>?_)
 ·obtain ⟨n,dp,dt,S,rfl,_⟩:=h
  rfl
 ·obtain ⟨n,dp,dt,S,rfl,N,hz,q⟩:=h
  refine ⟨_,(pss_one (ps_ret (pe_compD rfl (compScope_of (nT:=1) (js:=[]) (N':=["post"]) rfl rfl (by kernel_rfl)) (pi_vals (fldK K (pv 0) rfl))
  (fun _ _ _ _ _=>(pg_name (i:=0) (show List.Nodup (["post"]:List Str) by decide +kernel) rfl (by first | exact Or.inl rfl | exact Or.inr rfl)))
  (fun _ _ _ _ _=>(pif_one (pt_val (pe_meth0C (pv 0) D_reads (hr.mono (by decide))))))
  (fun _ _ _ _ _=>(fldK K (pv 0) rfl))))),?_⟩
  obtain ⟨dx,h1⟩:=N.ins
  obtain ⟨kvs,hd,hp⟩:=N.posts
  have hl:=Paired.length hp
  refine ⟨_,rfl,n,c.net,dx,_,_,rfl,h1,O.cn,O.fp,rfl,dp,kvs,rfl,hd,fun o M hM=>?_⟩
  rw [itv_eq]
  refine compG_dict (fun i=>rdB (S.posts.getD i ("",.post)).2) (fun i=>.str (S.posts.getD i ("",.post)).1) upd_same (by omega) (fun i kv H2 ek e2=>?_) (fun l H' h0 e' hl'=>?_)
  ·obtain ⟨p,ep,_,a,dxa,ea,ha⟩:=Paired.at hp ek
   have gd:S.posts.getD i ("",.post)=p:=by rw [List.getD_eq_getElem?_getD,ep]; rfl
   have ha2:H2 a=some (.ins (c.of p.2) dxa [("name",.str p.1)]):=e2 _ _ (by rw [upd_ne (ne_of ha hd (fun z=>nomatch z))]; exact ha)
   rw [gd]
   refine ⟨_,rfl,a,c.of p.2,dxa,_,ea,⟨_,rfl⟩,ha2,rfl,_,rfl,_,rfl,?_⟩
   rw [reads_of O]
   refine ite2 (fun h=>?_) (fun h=>⟨by simpa using h,Same.refl _⟩)
   exact ⟨_,rfl,a,c.of p.2,dxa,_,_,ea,ha2,O.cls _,O.nam _,rfl,h,rfl,Same.refl _⟩
  ·refine ⟨dp,o,kvs,hM,e' _ _ upd_same,q l _ (same_thaw hd e') ?_ ?_⟩
   ·have nl:l ≠ dp:=fun z=>by rw [z,upd_same] at h0; cases h0
    rw [upd_ne nl] at h0
    exact h0
   ·have nl:l ≠ dp:=fun z=>by rw [z,upd_same] at h0; cases h0
    rw [upd_ne nl,hl',hl]
    congr 2
    rw [range_filter_map S.posts (fun p=>rdB p.2) (fun p=>V.str p.1) _ _ fun i p ep=>by
     have gd:S.posts.getD i ("",.post)=p:=by rw [List.getD_eq_getElem?_getD,ep]; rfl
     rw [gd]; exact ⟨rfl,rfl⟩]
    unfold NS.lis
    rw [List.map_map]
    rfl
def NS.home (S:NS):Option (Str × Kd):=S.posts.find? fun p=>!hrB p.2
def homeV:Option (Str × Kd)→V
 | none=>.non
 | some p=>.str p.1
def sp_home (c:Cl):Sp:=fun vs H Q _=>∃ (n dp dt:Addr) (S:NS),vs=[.ref n]∧NetAt c H n dp dt S∧Q (homeV S.home) H
abbrev s_Net_home:Stmt:=inClass (top 36) 13
theorem sc_Net_home:FnScope ["self","post"] ["self"] (defScope s_Net_home):=⟨rfl,rfl,rfl,by decide +kernel,rfl,by decide +kernel,by decide +kernel⟩
theorem ok_Net_home {c:Cl} {f:Addr} {fd:FuncData} (F:Fun K "home" "Net.home" s_Net_home f fd) (O:Cl.Ok K c) (D_hears:∀ C,IsPost c C→Dm P w K mg base 1 C "hears" ["self"] (sp_hearsC c C)):FnOk P w K mg base CX0 2 f fd ["self"] (sp_home c):=by
 refine F.ok sc_Net_home (fun vs H Q E h=>?_) (fun cdv A outer s H vs Q E hr h=>?_)
 ·obtain ⟨n,dp,dt,S,rfl,_⟩:=h
  rfl
 ·obtain ⟨n,dp,dt,S,rfl,N,q⟩:=h
  have ND:=sc_Net_home.nd
  refine ⟨_,(pss_cons (ps_forD PassesOwn.never rfl (pi_vals (fldK K (pv 0) rfl)) (pg_name (i:=1) ND rfl (by first | exact Or.inl rfl | exact Or.inr rfl))
  (pss_one (ps_if (pt_not (pt_val (pe_meth0C (pv 1) D_hears (hr.mono (by decide)))))
  (pss_one (ps_ret (fldK K (pv 1) rfl)))
  pss_nil)))
 (pss_one (ps_ret pe_non))),?_⟩
  obtain ⟨dx,h1⟩:=N.ins
  obtain ⟨kvs,hd,hp⟩:=N.posts
  have hl:=Paired.length hp
  refine ⟨_,rfl,n,c.net,dx,_,_,rfl,h1,O.cn,O.fp,rfl,dp,kvs,rfl,hd,fun o M hM=>?_⟩
  rw [itv_eq]
  refine for_dict (kvs:=kvs) (fun i σ H2=>∃ ov,σ=[some (.ref n),ov]∧H2=upd H dp (.frz o (.dK kvs))∧∀ p ∈ S.posts.take i,hrB p.2=true) ⟨none,rfl,rfl,by simp⟩ (fun i σ H2 _ ⟨_,_,e,_⟩=>by rw [e]; exact upd_same) (fun i kv σ H2 ek ⟨ov,es,e,hh⟩=>?_) (fun σ H2 ⟨ov,es,e,hh⟩=>?_)
  ·subst es e
   obtain ⟨p,ep,_,a,dxa,ea,ha⟩:=Paired.at hp ek
   have ha2:upd H dp (.frz o (.dK kvs)) a=some (.ins (c.of p.2) dxa [("name",.str p.1)]):=by rw [upd_ne (ne_of ha hd (fun z=>nomatch z))]; exact ha
   refine ⟨_,rfl,a,c.of p.2,dxa,_,ea,⟨_,rfl⟩,ha2,rfl,_,rfl,_,rfl,?_⟩
   rw [hears_of O]
   cases hb:hrB p.2 with
   | false=>
    refine iteT ⟨_,rfl,a,c.of p.2,dxa,_,_,ea,ha2,O.cls _,O.nam _,rfl,dp,o,kvs,hM,upd_same,?_⟩
    have:S.home=some p:=by
     unfold NS.home
     rw [List.find?_eq_some_iff_getElem]
     obtain ⟨hi,e2⟩:=List.getElem?_eq_some_iff.mp ep
     refine ⟨by rw [hb]; rfl,i,hi,e2,fun j hj=>?_⟩
     rw [hh _ (List.mem_take_iff_getElem.mpr ⟨j,by omega,rfl⟩)]
     rfl
    rw [this] at q
    rw [thaw_same hd]
    exact q
   | true=>
    refine iteF ⟨_,rfl,rfl,fun p' hp'=>?_⟩
    rw [List.take_add_one,ep] at hp'
    rcases List.mem_append.mp hp' with z | z
    ·exact hh p' z
    ·have:p'=p:=by simpa using z
     rw [this]; exact hb
  ·subst es e
   refine ⟨dp,o,kvs,hM,upd_same,?_⟩
   have:S.home=none:=by
    unfold NS.home
    rw [List.find?_eq_none]
    intro p hpm
    rw [hl,List.take_length] at hh
    rw [hh p hpm]
    simp
   rw [this] at q
   rw [thaw_same hd]
   exact q
end
end K31
set_option maxRecDepth 100000
namespace K31
open PySem L2
open PyProof.Rows (boot_list boot_int boot_bool boot_tuple boot_str boot_dict boot_all)
def But (d:Addr) (H H':Hp):Prop:=∀ a o,a ≠ d→H a=some o→H' a=some o
theorem But.of {d:Addr} {H H':Hp} (e:Same H H'):But d H H':=fun a o _ h=>e a o h
theorem But.trans {d:Addr} {H H1 H2:Hp} (a:But d H H1) (b:But d H1 H2):But d H H2:=fun c o n h=>b c o n (a c o n h)
def NS.put (S:NS) (x:Str) (k:Kd):NS:={ S with posts:=S.posts ++ [(x,k)] }
theorem NetAt.put {c:Cl} {H H':Hp} {n dp dt a:Addr} {S:NS} {p:Str × Kd} {kvs:List (Key × V)} (N:NetAt c H n dp dt S) (hd:H dp=some (.dK kvs)) (hp:Paired (fun (kv:Key × V) p=>kv.1=Sum.inr p.1∧PostAt c H kv.2 p) kvs S.posts) (pa:PostAt c H (.ref a) p) (e:But dp H H')
  (hd':H' dp=some (.dK (kvs ++ [(Sum.inr p.1,.ref a)]))):NetAt c H' n dp dt (S.put p.1 p.2):=by
 obtain ⟨⟨dx,h1⟩,_,⟨kt,h3,p3⟩,h4⟩:=N
 have keepP:∀ {v:V} {q:Str × Kd},PostAt c H v q→PostAt c H' v q:=fun ⟨b,dxb,eb,hb⟩=>⟨b,dxb,eb,e _ _ (ne_of hb hd (fun z=>nomatch z)) hb⟩
 have keepT:∀ {v:V} {t:Tie},TieAt H v t→TieAt H' v t:=fun ⟨b,eb,hb⟩=>⟨b,eb,e _ _ (ne_of hb hd (fun z=>nomatch z)) hb⟩
 exact ⟨⟨dx,e _ _ (ne_of h1 hd (fun z=>nomatch z)) h1⟩,⟨_,hd',Paired.snoc' (Paired.mapP hp fun _ _ ⟨x,y⟩=>⟨x,keepP y⟩) ⟨rfl,keepP pa⟩⟩,⟨kt,e _ _ (Ne.symm h4) h3,Paired.mapP p3 fun _ _ ⟨x,y⟩=>⟨x,keepT y⟩⟩,h4⟩
section
variable {P : Program} {w : World} {K : PySem.W.Frag} {mg : Str → Option Value} {base : Heap}
def full (S:NS) (k:Kd):Bool:=decide (20 ≤ S.posts.length) || (rdB k && decide (8 ≤ S.lis.length))
def sp_put_in (c:Cl) (X:Xc):Sp:=fun vs H Q E=>∃ (n dp dt a:Addr) (S:NS) (p:Str × Kd),vs=[.ref n,.ref a]∧NetAt c H n dp dt S∧PostAt c H (.ref a) p∧¬ p.1 ∈ S.names∧S.posts.length ≤ 1000∧
 (full S p.2=true→∀ H',Same H H'→E (.ref X.tooMany) none H')∧(full S p.2=false→∀ H',But dp H H'→NetAt c H' n dp dt (S.put p.1 p.2)→Q .non H')
abbrev s_Net_put_in:Stmt:=inClass (top 36) 5
theorem sc_Net_put_in:FnScope ["self","post"] ["self","post"] (defScope s_Net_put_in):=⟨rfl,rfl,rfl,by decide +kernel,rfl,by decide +kernel,by decide +kernel⟩
theorem ok_Net_put_in {c:Cl} {X:Xc} {f:Addr} {fd:FuncData} (F:Fun K "put_in" "Net.put_in" s_Net_put_in f fd) (O:Cl.Ok K c) (T:TxtL mg) (TG:TxtG mg) (TX:TxtX K mg X) (D_reads:∀ C,IsPost c C→Dm P w K mg base 1 C "reads" ["self"] (sp_readsC c C))
  (D_Net_listeners:Dm P w K mg base 2 c.net "listeners" ["self"] (sp_listeners c)):FnOk P w K mg base (CXE P w) 3 f fd ["self","post"] (sp_put_in c X):=by
 obtain ⟨tl,hg_MOST_POSTS⟩:=TG.mop
 obtain ⟨tn,hg_MOST_LISTENERS⟩:=TG.mol
 refine F.okX sc_Net_put_in (fun vs H Q E h=>?_) (fun cdv A outer s H vs Q E hr h=>?_)
 ·obtain ⟨n,dp,dt,a,S,p,rfl,_⟩:=h
  rfl
 ·obtain ⟨n,dp,dt,a,S,p,rfl,N,pa,hnew,hz,q1,q2⟩:=h
  have ND:=sc_Net_put_in.nd
  obtain ⟨dx,h1⟩:=id N.ins
  obtain ⟨kvs,hd,hp⟩:=id N.posts
  obtain ⟨a',dxa,ea,ha⟩:=id pa
  cases ea
  have hl:=Paired.length hp
  refine ⟨_,(pss_cons (ps_if (pt_cmpR op_ge (pe_callB call_len_dK rfl T.n_len boot_len (pa_cons (fldK K (pv 0) rfl) pa_nil)) (pe_glob (v:=.int 20) rfl hg_MOST_POSTS ⟨_,rfl⟩) (nomark _))
  (pss_one (ps_raise0 rfl made_def rfl TX.c_TooMany TX.x_TooMany))
  pss_nil)
 (pss_cons (ps_if (PW.pt (pw_and (pt_val (pe_meth0C (pv 1) D_reads (hr.mono (by decide)))) (pw_and1 (pt_cmpR op_ge (pe_callB (lenK K) rfl T.n_len boot_len (pa_cons (pe_meth0D (pv 0) D_Net_listeners (hr.mono (by decide))) pa_nil)) (pe_glob (v:=.int 8) rfl hg_MOST_LISTENERS ⟨_,rfl⟩) (nomark _)))))
  (pss_one (ps_raise0 rfl made_def rfl TX.c_TooMany TX.x_TooMany))
  pss_nil)
 (pss_one (ps_dput (hu_of hr) (fldK K (pv 0) rfl) (fldK K (pv 1) rfl) (pv 1) rfl)))),?_⟩
  have store:∀ H1,Same H H1→full S p.2=false→∃ a_1 H4,V.ref dp=V.ref a_1∧DPut H1 a_1 (.str p.1) (.ref a) H4∧Q .non H4:=fun H1 e1 hf=>by
   have hv:valV kvs (Sum.inr p.1)=none:=by
    cases hs:valV kvs (Sum.inr p.1) with
    | none=>rfl
    | some v=>exact absurd ((val_some (x:=p.1) hp).mp (by rw [hs]; rfl)) hnew
   refine ⟨dp,_,rfl,DPut.k (k:=Sum.inr p.1) (e1 _ _ hd) (by show kvs.length < 2 ^ 24; omega),?_⟩
   have b1:But dp H (upd H1 dp (.dK (putK kvs (Sum.inr p.1) (.ref a)))):=fun b o nb hb=>by rw [upd_ne nb]; exact e1 _ _ hb
   exact q2 hf _ b1 (N.put hd hp pa b1 (by rw [upd_same,putK_new _ hv]))
  refine ⟨_,rfl,n,c.net,dx,_,_,rfl,h1,O.cn,O.fp,rfl,dp,kvs,rfl,hd,_,_,rfl,rfl,_,rfl,ite2 (fun g1=>?_) (fun g1=>?_)⟩
  ·have g1:20 ≤ S.posts.length:=by have:=of_decide_eq_true g1; omega
   exact q1 (by unfold full; rw [decide_eq_true g1]; rfl) H (Same.refl _)
  ·have g1:¬ 20 ≤ S.posts.length:=fun z=>g1 (decide_eq_true (by omega))
   refine ⟨_,rfl,a,c.of p.2,dxa,_,rfl,⟨_,rfl⟩,ha,rfl,_,rfl,_,rfl,?_⟩
   rw [reads_of O]
   cases hb:rdB p.2 with
   | false=>
    refine iteF (iteF ?_)
    refine ⟨_,rfl,_,rfl,n,c.net,dx,_,_,rfl,h1,O.cn,O.fp,rfl,_,rfl,a,c.of p.2,dxa,_,_,rfl,ha,O.cls _,O.nam _,rfl,?_⟩
    exact store H (Same.refl _) (by unfold full; rw [decide_eq_false g1,hb]; rfl)
   | true=>
    refine iteT ⟨_,rfl,n,dx,_,rfl,h1,rfl,n,dp,dt,S,rfl,N,hz,fun l H1 e1 h0 hl1=>?_⟩
    refine ⟨l,_,rfl,.inl (SqL.of hl1),_,_,rfl,rfl,_,rfl,ite2 (fun g2=>?_) (fun g2=>?_)⟩
    ·have g2:8 ≤ S.lis.length:=by have:=of_decide_eq_true g2; rw [List.length_map] at this; omega
     exact q1 (by unfold full; rw [hb,decide_eq_true g2,Bool.and_self,Bool.or_true]) H1 e1
    ·have g2:¬ 8 ≤ S.lis.length:=fun z=>g2 (decide_eq_true (by rw [List.length_map]; omega))
     refine ⟨_,rfl,_,rfl,n,c.net,dx,_,_,rfl,e1 _ _ h1,O.cn,O.fp,rfl,_,rfl,a,c.of p.2,dxa,_,_,rfl,e1 _ _ ha,O.cls _,O.nam _,rfl,?_⟩
     exact store H1 e1 (by unfold full; rw [decide_eq_false g1,decide_eq_false g2,Bool.and_false]; rfl)
def due (X:Xc) (S:NS) (x:Str) (k:Kd):Option Addr:=
 if isName x=false then some X.noName else if x ∈ S.names then some X.taken else if hrB k=false∧S.home.isSome=true then some X.oneHouse else if full S k=true then some X.tooMany else none
def sp_new (c:Cl) (X:Xc) (k:Kd):Sp:=fun vs H Q E=>∃ (n dp dt:Addr) (S:NS) (x:Str),vs=[.ref n,.str x]∧NetAt c H n dp dt S∧x.length ≤ 1000∧S.posts.length ≤ 1000∧
 (∀ r,due X S x k=some r→∀ H',Same H H'→E (.ref r) none H')∧(due X S x k=none→∀ H',But dp H H'→NetAt c H' n dp dt (S.put x k)→Q .non H')
theorem made {c:Cl} {X:Xc} {H:Hp} {n dp dt:Addr} {S:NS} {x:Str} {k:Kd} {Q:VK} {E:XK} (N:NetAt c H n dp dt S) (hz:S.posts.length ≤ 1000) (hi:isName x=true) (hx:¬ x ∈ S.names) (hh:¬ (hrB k=false∧S.home.isSome=true))
  (q1:∀ r,due X S x k=some r→∀ H',Same H H'→E (.ref r) none H') (q2:due X S x k=none→∀ H',But dp H H'→NetAt c H' n dp dt (S.put x k)→Q .non H') (y dy:Addr) (ny:H y=none) (ndy:H dy=none) (ne:dy ≠ y):
  sp_put_in c X [.ref n,.ref y] (upd (upd (upd H dy (.own y)) y (.ins (c.of k) dy [])) y (.ins (c.of k) dy [("name",.str x)])) Q E:=by
 have e1:Same H (upd (upd (upd H dy (.own y)) y (.ins (c.of k) dy [])) y (.ins (c.of k) dy [("name",.str x)])):=same_new (same_new (same_upd (Same.refl _) ndy) ny) ny
 have du:due X S x k=if full S k=true then some X.tooMany else none:=by
  unfold due
  rw [if_neg (by rw [hi]; exact fun z=>nomatch z),if_neg hx,if_neg hh]
 refine ⟨n,dp,dt,y,S,(x,k),rfl,N.mono e1,⟨y,dy,rfl,upd_same⟩,hx,hz,fun hf H' e'=>q1 _ (by rw [du,if_pos hf]) H' (e1.trans e'),fun hf H' b' N'=>q2 (by rw [du,if_neg (by rw [hf]; exact fun z=>nomatch z)]) H' ((But.of e1).trans b') N'⟩
abbrev s_Net_post:Stmt:=inClass (top 36) 2
theorem sc_Net_post:FnScope ["self","name"] ["self","name"] (defScope s_Net_post):=⟨rfl,rfl,rfl,by decide +kernel,rfl,by decide +kernel,by decide +kernel⟩
theorem ok_Net_post {c:Cl} {X:Xc} {f:Addr} {fd:FuncData} (F:Fun K "post" "Net.post" s_Net_post f fd) (O:Cl.Ok K c) (D_Net_check_new_name:DmX P w K mg base 2 c.net "check_new_name" ["self","name"] (sp_cnn c X)) (D_Net_put_in:DmX P w K mg base 3 c.net "put_in" ["self","post"] (sp_put_in c X))
  (D_Post:Dk P w K mg base 1 "Post" c.post ["self","name"] (sp_pinit c)):FnOk P w K mg base (CXE P w) 4 f fd ["self","name"] (sp_new c X .post):=by
 refine F.okX sc_Net_post (fun vs H Q E h=>?_) (fun cdv A outer s H vs Q E hr h=>?_)
 ·obtain ⟨n,dp,dt,S,x,rfl,_⟩:=h
  rfl
 ·obtain ⟨n,dp,dt,S,x,rfl,N,hx,hz,q1,q2⟩:=h
  obtain ⟨dx,h1⟩:=id N.ins
  refine ⟨_,(pss_cons (ps_expr (pe_methX on_def (pv 0) D_Net_check_new_name (hr.mono (by decide)) (pa_cons (pv 1) pa_nil)))
 (pss_one (ps_expr (pe_methX on_def (pv 0) D_Net_put_in (hr.mono (by decide)) (pa_cons (pe_makeD D_Post (hr.mono (by decide)) rfl (pa_cons (pv 1) pa_nil)) pa_nil))))),?_⟩
  refine ⟨_,rfl,n,dx,_,rfl,h1,rfl,_,rfl,n,dp,dt,S,x,rfl,N,hx,fun hi H' e=>q1 _ (by unfold due; rw [if_pos hi]) H' e,fun hi ht H' e=>q1 _ (by unfold due; rw [if_neg (by rw [hi]; exact fun z=>nomatch z),if_pos ht]) H' e,fun hi ht H1 e1=>?_⟩
  refine ⟨_,rfl,n,dx,_,rfl,e1 _ _ h1,rfl,_,rfl,fun y dy ny ndy ne=>⟨y,.post,dy,x,rfl,upd_same,rfl,?_⟩⟩
  exact made (N.mono e1) hz hi ht (fun z=>absurd z.1 (by decide)) (fun r hr' H' e'=>q1 r hr' H' (e1.trans e')) (fun hn H' b' N'=>q2 hn H' ((But.of e1).trans b') N') y dy ny ndy ne
abbrev s_Net_listener:Stmt:=inClass (top 36) 3
theorem sc_Net_listener:FnScope ["self","name"] ["self","name"] (defScope s_Net_listener):=⟨rfl,rfl,rfl,by decide +kernel,rfl,by decide +kernel,by decide +kernel⟩
theorem ok_Net_listener {c:Cl} {X:Xc} {f:Addr} {fd:FuncData} (F:Fun K "listener" "Net.listener" s_Net_listener f fd) (O:Cl.Ok K c) (D_Net_check_new_name:DmX P w K mg base 2 c.net "check_new_name" ["self","name"] (sp_cnn c X)) (D_Net_put_in:DmX P w K mg base 3 c.net "put_in" ["self","post"] (sp_put_in c X))
  (D_Listener:Dk P w K mg base 1 "Listener" c.lstn ["self","name"] (sp_pinit c)):FnOk P w K mg base (CXE P w) 4 f fd ["self","name"] (sp_new c X .listener):=by
 refine F.okX sc_Net_listener (fun vs H Q E h=>?_) (fun cdv A outer s H vs Q E hr h=>?_)
 ·obtain ⟨n,dp,dt,S,x,rfl,_⟩:=h
  rfl
 ·obtain ⟨n,dp,dt,S,x,rfl,N,hx,hz,q1,q2⟩:=h
  obtain ⟨dx,h1⟩:=id N.ins
  refine ⟨_,(pss_cons (ps_expr (pe_methX on_def (pv 0) D_Net_check_new_name (hr.mono (by decide)) (pa_cons (pv 1) pa_nil)))
 (pss_one (ps_expr (pe_methX on_def (pv 0) D_Net_put_in (hr.mono (by decide)) (pa_cons (pe_makeD D_Listener (hr.mono (by decide)) rfl (pa_cons (pv 1) pa_nil)) pa_nil))))),?_⟩
  refine ⟨_,rfl,n,dx,_,rfl,h1,rfl,_,rfl,n,dp,dt,S,x,rfl,N,hx,fun hi H' e=>q1 _ (by unfold due; rw [if_pos hi]) H' e,fun hi ht H' e=>q1 _ (by unfold due; rw [if_neg (by rw [hi]; exact fun z=>nomatch z),if_pos ht]) H' e,fun hi ht H1 e1=>?_⟩
  refine ⟨_,rfl,n,dx,_,rfl,e1 _ _ h1,rfl,_,rfl,fun y dy ny ndy ne=>⟨y,.listener,dy,x,rfl,upd_same,rfl,?_⟩⟩
  exact made (N.mono e1) hz hi ht (fun z=>absurd z.1 (by decide)) (fun r hr' H' e'=>q1 r hr' H' (e1.trans e')) (fun hn H' b' N'=>q2 hn H' ((But.of e1).trans b') N') y dy ny ndy ne
abbrev s_Net_house:Stmt:=inClass (top 36) 1
theorem sc_Net_house:FnScope ["self","name"] ["self","name"] (defScope s_Net_house):=⟨rfl,rfl,rfl,by decide +kernel,rfl,by decide +kernel,by decide +kernel⟩
theorem ok_Net_house {c:Cl} {X:Xc} {f:Addr} {fd:FuncData} (F:Fun K "house" "Net.house" s_Net_house f fd) (O:Cl.Ok K c) (TX:TxtX K mg X) (D_Net_check_new_name:DmX P w K mg base 2 c.net "check_new_name" ["self","name"] (sp_cnn c X)) (D_Net_put_in:DmX P w K mg base 3 c.net "put_in" ["self","post"] (sp_put_in c X))
  (D_Net_home:Dm P w K mg base 2 c.net "home" ["self"] (sp_home c)) (D_House:Dk P w K mg base 1 "House" c.house ["self","name"] (sp_pinit c)):FnOk P w K mg base (CXE P w) 4 f fd ["self","name"] (sp_new c X .house):=by
 refine F.okX sc_Net_house (fun vs H Q E h=>?_) (fun cdv A outer s H vs Q E hr h=>?_)
 ·obtain ⟨n,dp,dt,S,x,rfl,_⟩:=h
  rfl
 ·obtain ⟨n,dp,dt,S,x,rfl,N,hx,hz,q1,q2⟩:=h
  obtain ⟨dx,h1⟩:=id N.ins
  refine ⟨_,(pss_cons (ps_expr (pe_methX on_def (pv 0) D_Net_check_new_name (hr.mono (by decide)) (pa_cons (pv 1) pa_nil)))
 (pss_cons (ps_if (pt_cmpR op_notN (pe_meth0D (pv 0) D_Net_home (hr.mono (by decide))) pe_non (nomark _))
  (pss_one (ps_raise0 rfl made_def rfl TX.c_OneHouse TX.x_OneHouse))
  pss_nil)
 (pss_one (ps_expr (pe_methX on_def (pv 0) D_Net_put_in (hr.mono (by decide)) (pa_cons (pe_makeD D_House (hr.mono (by decide)) rfl (pa_cons (pv 1) pa_nil)) pa_nil)))))),?_⟩
  refine ⟨_,rfl,n,dx,_,rfl,h1,rfl,_,rfl,n,dp,dt,S,x,rfl,N,hx,fun hi H' e=>q1 _ (by unfold due; rw [if_pos hi]) H' e,fun hi ht H' e=>q1 _ (by unfold due; rw [if_neg (by rw [hi]; exact fun z=>nomatch z),if_pos ht]) H' e,fun hi ht H1 e1=>?_⟩
  refine ⟨_,rfl,n,dx,_,rfl,e1 _ _ h1,rfl,n,dp,dt,S,rfl,N.mono e1,rfl,_,rfl,?_⟩
  cases hs:S.home with
  | some p=>
   refine iteNN (fun z=>nomatch z) (q1 _ ?_ H1 e1)
   unfold due
   rw [if_neg (by rw [hi]; exact fun z=>nomatch z),if_neg ht,if_pos ⟨rfl,by rw [hs]; rfl⟩]
  | none=>
   refine iteNS rfl ?_
   refine ⟨_,rfl,n,dx,_,rfl,e1 _ _ h1,rfl,_,rfl,fun y dy ny ndy ne=>⟨y,.house,dy,x,rfl,upd_same,rfl,?_⟩⟩
   exact made (N.mono e1) hz hi ht (fun z=>by rw [hs] at z; cases z.2) (fun r hr' H' e'=>q1 r hr' H' (e1.trans e')) (fun hn H' b' N'=>q2 hn H' ((But.of e1).trans b') N') y dy ny ndy ne
end
end K31
set_option maxRecDepth 100000
namespace K31
open PySem L2
open PyProof.Rows (boot_list boot_int boot_bool boot_tuple boot_str boot_dict boot_all)
structure TxtN (mg : Str → Option Value) : Prop where
  n_isinstance : mg "isinstance" = none
  n_int : mg "int" = none
  n_bool : mg "bool" = none
  n_len : mg "len" = none
structure TxtH (mg : Str → Option Value) : Prop where
  mot : ∃ t, mg "MOST_TIES" = some (.int 40 t)
  lod : ∃ t, mg "LONGEST_DELAY" = some (.int 99 t)
structure TxtI (K : PySem.W.Frag) : Prop where
  ii : PySem.W.kitOne K (.type "int") (.type "int") = some true
  ib : PySem.W.kitOne K (.type "int") (.type "bool") = some false
section
variable {P : Program} {w : World} {K : PySem.W.Frag} {mg : Str → Option Value} {base : Heap}
def sp_is_whole:Sp:=fun vs H Q _=>∃ i:Int,vs=[.int i]∧Q (.bl true) H
abbrev s_is_whole:Stmt:=top 30
theorem sc_is_whole:FnScope ["number"] ["number"] (defScope s_is_whole):=⟨rfl,rfl,rfl,by decide +kernel,rfl,by decide +kernel,by decide +kernel⟩
theorem ok_is_whole {f:Addr} {fd:FuncData} (F:Fun K "is_whole" "is_whole" s_is_whole f fd) (T:TxtN mg) (TI:TxtI K):FnOk P w K mg base CX0 1 f fd ["number"] sp_is_whole:=by
 refine F.ok sc_is_whole (fun vs H Q E h=>?_) (fun cdv A outer s H vs Q E hr h=>?_)
 ·obtain ⟨i,rfl,_⟩:=h
  rfl
 ·obtain ⟨i,rfl,q⟩:=h
  refine ⟨_,(pss_one (ps_ret (pe_and (pe_callB (isiK K) rfl T.n_isinstance boot_isinstance (pa_cons (pv 0) (pa_cons (pe_bltn (v:=.ty "int") rfl T.n_int boot_int rfl) pa_nil))) (pe_one (pe_not (pe_callB (isiK K) rfl T.n_isinstance boot_isinstance (pa_cons (pv 0) (pa_cons (pe_bltn (v:=.ty "bool") rfl T.n_bool boot_bool rfl) pa_nil)))))))),?_⟩
  exact ⟨_,rfl,.int i,_,_,_,rfl,.int i,TI.ii,_,rfl,iteT ⟨_,rfl,.int i,_,_,_,rfl,.int i,TI.ib,_,rfl,q⟩⟩
def isDelay (i:Int):Bool:=decide (1 ≤ i) && decide (i ≤ 99)
def sp_is_delay:Sp:=fun vs H Q _=>∃ i:Int,vs=[.int i]∧Q (.bl (isDelay i)) H
abbrev s_is_delay:Stmt:=top 31
theorem sc_is_delay:FnScope ["number"] ["number"] (defScope s_is_delay):=⟨rfl,rfl,rfl,by decide +kernel,rfl,by decide +kernel,by decide +kernel⟩
theorem ok_is_delay {f:Addr} {fd:FuncData} (F:Fun K "is_delay" "is_delay" s_is_delay f fd) (TH:TxtH mg) (D_is_whole:Df P w K mg base 1 "is_whole" ["number"] sp_is_whole):FnOk P w K mg base CX0 2 f fd ["number"] sp_is_delay:=by
 obtain ⟨tl,hg_LONGEST_DELAY⟩:=TH.lod
 refine F.ok sc_is_delay (fun vs H Q E h=>?_) (fun cdv A outer s H vs Q E hr h=>?_)
 ·obtain ⟨i,rfl,_⟩:=h
  rfl
 ·obtain ⟨i,rfl,q⟩:=h
  refine ⟨_,(pss_one (ps_ret (pe_and (pe_callD D_is_whole (hr.mono (by decide)) rfl (pa_cons (pv 0) pa_nil)) (pe_one (pe_chain op_le op_le pe_int (pv 0) (pe_glob (v:=.int 99) rfl hg_LONGEST_DELAY ⟨_,rfl⟩)))))),?_⟩
  refine ⟨_,rfl,i,rfl,_,rfl,iteT ⟨_,rfl,_,_,rfl,rfl,_,rfl,ite2 (fun h1=>⟨_,_,rfl,rfl,?_⟩) (fun h1=>?_)⟩⟩
  ·have h1:1 ≤ i:=of_decide_eq_true h1
   unfold isDelay at q
   rw [decide_eq_true h1,Bool.true_and] at q
   exact q
  ·have h1:¬ 1 ≤ i:=fun z=>h1 (decide_eq_true z)
   unfold isDelay at q
   rw [decide_eq_false h1,Bool.false_and] at q
   exact q
def TiesAt (H:Hp) (l:Addr) (ts:List Tie):Prop:=∃ xs,H l=some (.lst xs)∧Paired (TieAt H) xs ts
theorem TiesAt.mono {H H':Hp} {l:Addr} {ts:List Tie} (e:Same H H') (h:TiesAt H l ts):TiesAt H' l ts:=let ⟨xs,q1,q2⟩:=h; ⟨xs,e _ _ q1,Paired.mapP q2 fun _ _ z=>z.mono e⟩
theorem paired_of {F:V→Tie→Prop}:∀ {vs:List V} {ts:List Tie},vs.length=ts.length→(∀ (i:Nat) v t,vs[i]?=some v→ts[i]?=some t→F v t)→Paired F vs ts
 | [],[],_,_=>.nil
 | v :: vs,t :: ts,h,k=>.cons (k 0 v t rfl rfl) (paired_of (by simpa using h) fun i v' t' h1 h2=>k (i + 1) v' t' (by simpa using h1) (by simpa using h2))
 | [],_ :: _,h,_=>by cases h
 | _ :: _,[],h,_=>by cases h
def sp_ties (c:Cl):Sp:=fun vs H Q _=>∃ (n dp dt:Addr) (S:NS),vs=[.ref n]∧NetAt c H n dp dt S∧S.ties.length ≤ 1000∧∀ l H',Same H H'→H l=none→TiesAt H' l S.ties→Q (.ref l) H'
abbrev s_Net_ties:Stmt:=inClass (top 36) 14
theorem sc_Net_ties:FnScope ["self"] ["self"] (defScope s_Net_ties):=⟨rfl,rfl,rfl,by decide +kernel,rfl,by decide +kernel,by decide +kernel⟩
theorem ok_Net_ties {c:Cl} {f:Addr} {fd:FuncData} (F:Fun K "ties" "Net.ties" s_Net_ties f fd) (O:Cl.Ok K c):FnOk P w K mg base CX0 1 f fd ["self"] (sp_ties c):=by
 refine F.ok sc_Net_ties (fun vs H Q E h=>?_) (fun cdv A outer s H vs Q E hr h=>?_)
 ·obtain ⟨n,dp,dt,S,rfl,_⟩:=h
  rfl
 ·obtain ⟨n,dp,dt,S,rfl,N,hz,q⟩:=h
  refine ⟨_,(pss_one (ps_ret (pe_compD rfl (compScope_of (nT:=4) (js:=[]) (N':=["number","one","other","delay"]) rfl rfl (by kernel_rfl)) (pi_vals (fldK K (pv 0) rfl))
  (fun _ _ _ _ _=>(pgtK K (n:=4) rfl (pgs_cons (pg_name (i:=0) (show List.Nodup (["number","one","other","delay"]:List Str) by decide +kernel) rfl (by first | exact Or.inl rfl | exact Or.inr rfl)) (pgs_cons (pg_name (i:=1) (show List.Nodup (["number","one","other","delay"]:List Str) by decide +kernel) rfl (by first | exact Or.inl rfl | exact Or.inr rfl)) (pgs_cons (pg_name (i:=2) (show List.Nodup (["number","one","other","delay"]:List Str) by decide +kernel) rfl (by first | exact Or.inl rfl | exact Or.inr rfl)) (pgs_cons (pg_name (i:=3) (show List.Nodup (["number","one","other","delay"]:List Str) by decide +kernel) rfl (by first | exact Or.inl rfl | exact Or.inr rfl)) pgs_nil))))))
  (fun _ _ _ _ _=>pif_nil)
  (fun _ _ _ _ _=>(pe_tupS (pa_cons (pv 0) (pa_cons (pv 1) (pa_cons (pv 2) (pa_cons (pv 3) pa_nil))))))))),?_⟩
  obtain ⟨dx,h1⟩:=N.ins
  obtain ⟨kvs,hd,hp⟩:=N.ties
  have hl:=Paired.length hp
  refine ⟨_,rfl,n,c.net,dx,_,_,rfl,h1,O.cn,O.ft,rfl,dt,kvs,rfl,hd,fun o M hM=>?_⟩
  rw [itv_eq]
  have row:∀ (i:Nat) (kv:Key × V),kvs[i]?=some kv→∃ t p,S.ties[i]?=some t∧kv.2=.ref p∧upd H dt (.frz o (.dK kvs)) p=some (.tup [.int t.1,.str t.2.1,.str t.2.2.1,.int t.2.2.2]):=fun i kv ek=>by
   obtain ⟨t,et,_,p,ep,hp'⟩:=Paired.at hp ek
   exact ⟨t,p,et,ep,by rw [upd_ne (ne_of hp' hd (fun z=>nomatch z))]; exact hp'⟩
  refine compP4_dict (fun i H v=>∃ t,S.ties[i]?=some t∧TieAt H v t) (fun i H H' v e ⟨t,a,b⟩=>⟨t,a,b.mono e⟩) upd_same (by omega) (fun i kv ek=>?_) (fun i kv p x1 x2 x3 x4 H2 ek ep hp' e2=>?_) (fun l H' vs h0 e' hl' vl hv=>?_) (fun i H v l ⟨t,_,b,eb,hb⟩ ⟨ys,hy⟩ z=>?_) (fun i H v l ys ⟨t,a,b,eb,hb⟩ nv=>?_)
  ·obtain ⟨t,p,_,ep,hp'⟩:=row i kv ek
   exact ⟨p,_,_,_,_,ep,hp'⟩
  ·obtain ⟨t,p',et,ep',hp''⟩:=row i kv ek
   rw [ep] at ep'
   cases ep'
   rw [hp'] at hp''
   cases hp''
   refine ⟨_,rfl,_,rfl,_,rfl,_,rfl,(by show 4 ≤ sizeLine; decide),fun a H5 e5 h05 ha=>⟨⟨t,et,a,rfl,ha⟩,e5⟩⟩
  ·refine ⟨dt,o,kvs,hM,e' _ _ upd_same,q l _ (same_thaw hd e') ?_ ?_⟩
   ·have nl:l ≠ dt:=fun z=>by rw [z,upd_same] at h0; cases h0
    rw [upd_ne nl] at h0
    exact h0
   ·have nl:l ≠ dt:=fun z=>by rw [z,upd_same] at h0; cases h0
    refine ⟨vs,by rw [upd_ne nl]; exact hl',paired_of (by omega) fun i v t hv' ht=>?_⟩
    obtain ⟨⟨t',et,b,eb,hb⟩,_⟩:=hv i v hv'
    rw [ht] at et
    cases et
    exact ⟨b,eb,by rw [upd_ne (ne_of hb (e' _ _ upd_same) (fun z=>nomatch z))]; exact hb⟩
  ·rw [eb] at z
   cases z
   rw [hb] at hy
   cases hy
  ·exact ⟨t,a,b,eb,by rw [upd_ne (fun z=>nv (by rw [eb,z]))]; exact hb⟩
end
end K31
set_option maxRecDepth 100000
namespace K31
open PySem L2
open PyProof.Rows (boot_list boot_int boot_bool boot_tuple boot_str boot_dict boot_all)
inductive Leads (ts : List Tie) (x : Str) : Str → Prop
  | refl : Leads ts x x
  | step {t : Tie} : t ∈ ts → Leads ts x t.2.1 → Leads ts x t.2.2.1
def namesD (R:List Str):HO:=.dK (R.map fun y=>((Sum.inr y:Key),V.bl true))
theorem names_val (R:List Str) (y:Str):(valV (R.map fun y=>((Sum.inr y:Key),V.bl true)) (Sum.inr y)).isSome=true ↔ y ∈ R:=by
 induction R with
 | nil=>simp [valV]
 | cons r R ih=>
  rw [List.map_cons]
  by_cases h:r=y
  ·rw [valV_pos (by rw [h])]
   simp [h]
  ·rw [valV_neg (fun z=>h (Sum.inr.inj z)),ih]
   simp [Ne.symm h]
theorem names_none {R:List Str} {y:Str} (h:¬ y ∈ R):valV (R.map fun y=>((Sum.inr y:Key),V.bl true)) (Sum.inr y)=none:=by
 cases hs:valV (R.map fun y=>((Sum.inr y:Key),V.bl true)) (Sum.inr y) with
 | none=>rfl
 | some v=>exact absurd ((names_val R y).mp (by rw [hs]; rfl)) h
def outs (ts:List Tie) (R:List Str):Nat:=(ts.filter fun t=>decide (¬ t.2.2.1 ∈ R)).length
theorem outs_le (ts:List Tie) (R:List Str) (y:Str):outs ts (R ++ [y]) ≤ outs ts R:=by
 unfold outs
 induction ts with
 | nil=>exact Nat.le_refl _
 | cons t ts ih=>
  simp only [List.filter_cons,List.mem_append,List.mem_singleton]
  by_cases h:t.2.2.1 ∈ R
  ·simp only [h,true_or,not_true_eq_false,decide_false,Bool.false_eq_true,if_false]
   simpa using ih
  ·by_cases h2:t.2.2.1=y
   ·simp only [h,h2,or_true,not_true_eq_false,decide_false,Bool.false_eq_true,if_false,not_false_eq_true,decide_true,if_true]
    rw [← h2]
    simp only [h,not_false_eq_true,decide_true,if_true,List.length_cons]
    simp only [List.mem_append,List.mem_singleton] at ih
    rw [← h2] at ih
    omega
   ·simp only [h,h2,or_self,not_false_eq_true,decide_true,if_true,List.length_cons]
    simp only [List.mem_append,List.mem_singleton] at ih
    omega
theorem outs_lt {ts:List Tie} {R:List Str} {t:Tie} (ht:t ∈ ts) (h:¬ t.2.2.1 ∈ R):outs ts (R ++ [t.2.2.1]) + 1 ≤ outs ts R:=by
 induction ts with
 | nil=>cases ht
 | cons u ts ih=>
  have keep:=outs_le ts R t.2.2.1
  by_cases hu:u=t
  ·subst hu
   unfold outs at keep ⊢
   simp only [List.filter_cons,List.mem_append,List.mem_singleton,or_true,not_true_eq_false,decide_false,Bool.false_eq_true,if_false,h,not_false_eq_true,decide_true,if_true,List.length_cons] at keep ⊢
   omega
  ·have ht':t ∈ ts:=by
    rcases List.mem_cons.mp ht with z | z
    ·exact absurd z.symm hu
    ·exact z
   have ih:=ih ht'
   unfold outs at ih ⊢
   simp only [List.filter_cons,List.mem_append,List.mem_singleton] at ih ⊢
   by_cases h1:u.2.2.1 ∈ R
   ·simp only [h1,true_or,not_true_eq_false,decide_false,Bool.false_eq_true,if_false]
    exact ih
   ·by_cases h2:u.2.2.1=t.2.2.1
    ·simp only [h2,h,or_true,not_true_eq_false,decide_false,Bool.false_eq_true,if_false,not_false_eq_true,decide_true,if_true,List.length_cons]
     omega
    ·simp only [h1,h2,or_self,not_false_eq_true,decide_true,if_true,List.length_cons]
     omega
section
variable {P : Program} {w : World} {K : PySem.W.Frag} {mg : Str → Option Value} {base : Heap}
def sp_led_to:Sp:=fun vs H Q _=>∃ (l:Addr) (ts:List Tie) (x:Str),vs=[.ref l,.str x]∧TiesAt H l ts∧ts.length ≤ 1000∧∀ d H' R,Same H H'→H d=none→H' d=some (namesD R)→(∀ y,y ∈ R ↔ Leads ts x y)→Q (.ref d) H'
abbrev s_led_to:Stmt:=top 32
theorem sc_led_to:FnScope ["ties","start","reached","waiting","name","number","one","other","delay"] ["ties","start"] (defScope s_led_to):=⟨rfl,rfl,rfl,by decide +kernel,rfl,by decide +kernel,by decide +kernel⟩
theorem ok_led_to {f:Addr} {fd:FuncData} (F:Fun K "led_to" "led_to" s_led_to f fd) (T:TxtN mg):FnOk P w K mg base CX0 1 f fd ["ties","start"] sp_led_to:=by
 refine F.ok sc_led_to (fun vs H Q E h=>?_) (fun cdv A outer s H vs Q E hr h=>?_)
 ·obtain ⟨l,ts,x,rfl,_⟩:=h
  rfl
 ·obtain ⟨l,ts,x,rfl,⟨xs,hl,hp⟩,hz,q⟩:=h
  have ND:=sc_led_to.nd
  have hxl:=Paired.length hp
  refine ⟨_,(pss_cons (ps_set (i:=2) ND rfl (by first | exact Or.inl rfl | exact Or.inr rfl) (pe_disp (pps_cons (pv 1) pe_bl pps_nil) rfl rfl (fun z=>nomatch z) (by decide)))
 (pss_cons (ps_set (i:=3) ND rfl (by first | exact Or.inl rfl | exact Or.inr rfl) (pe_lst (pa_cons (pv 1) pa_nil)))
 (pss_cons (ps_while PassesOwn.never (pt_cmpR op_gt (pe_callB (lenK K) rfl T.n_len boot_len (pa_cons (pv 3) pa_nil)) pe_int (nomark _))
  (pss_cons (ps_set (i:=4) ND rfl (by first | exact Or.inl rfl | exact Or.inr rfl) (bm0K K PySem.F.plainAttrs_list PySem.F.slot_list_pop PySem.F.type_list_pop mt_pop (pv 3)))
 (pss_one (ps_for PassesOwn.never rfl (pilK K (pv 0)) (pgtK K (n:=4) rfl (pgs_cons (pg_name (i:=5) ND rfl (by first | exact Or.inl rfl | exact Or.inr rfl)) (pgs_cons (pg_name (i:=6) ND rfl (by first | exact Or.inl rfl | exact Or.inr rfl)) (pgs_cons (pg_name (i:=7) ND rfl (by first | exact Or.inl rfl | exact Or.inr rfl)) (pgs_cons (pg_name (i:=8) ND rfl (by first | exact Or.inl rfl | exact Or.inr rfl)) pgs_nil)))))
  (pss_one (ps_ifJ (PW.pt (pw_and (pt_cmpR op_eq (pv 6) (pv 4) (nomark _)) (pw_and1 (pt_cmp (pc_dnotin (hu_of hr) (pv 7) (pv 2))))))
  (pss_cons (ps_dput (hu_of hr) (pv 2) (pv 7) pe_bl rfl)
 (pss_one (ps_expr (bmK K PySem.F.plainAttrs_list PySem.F.slot_list_append PySem.F.type_list_append mt_append (pv 3) (pa_cons (pv 7) pa_nil)))))
  pss_nil))))))
 (pss_one (ps_ret (pv 2)))))),?_⟩
  intro d hd
  refine ⟨_,rfl,upd_same,[(Sum.inr x,.bl true)],rfl,(by show 1 ≤ 15; decide),?_⟩
  have e0:upd (upd H d (.dK [])) d (.dK (mergeK [] [(Sum.inr x,.bl true)]))=upd H d (namesD [x]):=by rw [upd_upd]; rfl
  rw [e0]
  refine ⟨_,rfl,(by show 1 ≤ sizeLine; decide),fun wl hwl=>?_⟩
  have nwd:wl ≠ d:=fun z=>by rw [z,upd_same] at hwl; cases hwl
  have hwl0:H wl=none:=by rw [upd_ne nwd] at hwl; exact hwl
  have s0:Same H (upd (upd H d (namesD [x])) wl (.lst [.str x])):=same_new (same_upd (Same.refl _) hd) hwl0
  refine ⟨fun m σ H2=>∃ (R Wt:List Str) (o4 o5 o6 o7 o8:Option V),σ=[some (.ref l),some (.str x),some (.ref d),some (.ref wl),o4,o5,o6,o7,o8]∧Same H H2∧H2 d=some (namesD R)∧H2 wl=some (.lst (Wt.map V.str))∧
   x ∈ R∧(∀ y ∈ R,Leads ts x y)∧(∀ y ∈ Wt,y ∈ R)∧(∀ t ∈ ts,t.2.1 ∈ R→¬ t.2.1 ∈ Wt→t.2.2.1 ∈ R)∧R.length + outs ts R ≤ 1 + ts.length∧Wt.length ≤ R.length∧m=2 * outs ts R + Wt.length,
   ⟨_,[x],[x],none,none,none,none,none,rfl,s0,by rw [upd_ne nwd.symm]; exact upd_same,upd_same,by simp,fun y hy=>by rw [List.mem_singleton.mp hy]; exact .refl,fun y hy=>hy,fun t _ h1 h2=>absurd h1 h2,?_,Nat.le_refl _,rfl⟩,?_⟩
  ·have:outs ts [x] ≤ ts.length:=List.length_filter_le _ _
   show 1 + outs ts [x] ≤ 1 + ts.length
   omega
  rintro m σ H2 ⟨R,Wt,o4,o5,o6,o7,o8,rfl,e2,hd2,hw2,xR,ld,wR,cls,bnd,wle,rfl⟩
  refine ⟨_,rfl,wl,_,rfl,.inl (SqL.of hw2),_,_,rfl,rfl,_,rfl,ite2 (fun hc=>?_) (fun hc=>?_)⟩
  ·have hc:0 < Wt.length:=by have:=of_decide_eq_true hc; rw [List.length_map] at this; omega
   obtain ⟨W',nm,rfl⟩:∃ W' nm,Wt=W' ++ [nm]:=⟨Wt.dropLast,Wt.getLast (List.ne_nil_of_length_pos hc),(List.dropLast_concat_getLast _).symm⟩
   have nmR:nm ∈ R:=wR nm (by simp)
   refine ⟨fun σ' H'=>∃ m',m' < 2 * outs ts R + (W' ++ [nm]).length∧∃ (R Wt:List Str) (o4 o5 o6 o7 o8:Option V),σ'=[some (.ref l),some (.str x),some (.ref d),some (.ref wl),o4,o5,o6,o7,o8]∧Same H H'∧H' d=some (namesD R)∧H' wl=some (.lst (Wt.map V.str))∧
    x ∈ R∧(∀ y ∈ R,Leads ts x y)∧(∀ y ∈ Wt,y ∈ R)∧(∀ t ∈ ts,t.2.1 ∈ R→¬ t.2.1 ∈ Wt→t.2.2.1 ∈ R)∧R.length + outs ts R ≤ 1 + ts.length∧Wt.length ≤ R.length∧m'=2 * outs ts R + Wt.length,fun σ' H' h=>h,?_⟩
   refine ⟨_,rfl,.inl ⟨rfl,_,SqL.of hw2⟩,wl,_,.str nm,rfl,rfl,hw2,?_,?_⟩
   ·rw [List.map_append,List.length_append]
    simp
   have hdrop:((W' ++ [nm]).map V.str).dropLast=W'.map V.str:=by rw [List.map_append]; simp
   rw [hdrop]
   have e3:Same H (upd H2 wl (.lst (W'.map V.str))):=same_new e2 hwl0
   refine ⟨_,rfl,l,rfl,⟨_,SqL.of (e3 _ _ hl)⟩,for_list (K:=K) (xs:=xs) (fun j σ H3=>∃ (R' W1:List Str) (o5 o6 o7 o8:Option V),σ=[some (.ref l),some (.str x),some (.ref d),some (.ref wl),some (.str nm),o5,o6,o7,o8]∧Same H H3∧H3 d=some (namesD R')∧H3 wl=some (.lst (W1.map V.str))∧
    x ∈ R'∧nm ∈ R'∧(∀ y ∈ R',Leads ts x y)∧(∀ y ∈ W1,y ∈ R')∧(∀ t ∈ ts,t.2.1 ∈ R'→¬ t.2.1 ∈ W1→t.2.1 ≠ nm→t.2.2.1 ∈ R')∧(∀ t ∈ ts.take j,t.2.1=nm→t.2.2.1 ∈ R')∧R'.length + outs ts R' ≤ 1 + ts.length∧W1.length ≤ R'.length∧2 * outs ts R' + W1.length < 2 * outs ts R + (W' ++ [nm]).length)
    ⟨R,W',_,_,_,_,rfl,e3,by rw [upd_ne nwd.symm]; exact hd2,upd_same,xR,nmR,ld,fun y hy=>wR y (by simp [hy]),fun t ht h1 h2 h3=>cls t ht h1 (fun z=>by rcases List.mem_append.mp z with z | z; exact h2 z; exact h3 (by simpa using z)),fun t ht=>by simp at ht,bnd,?_,?_⟩ (fun j σ H3 _ h=>?_) (fun j v σ H3 ex h=>?_) (fun σ H3 h=>?_)⟩
   ·rw [List.length_append] at wle
    simp at wle
    omega
   ·rw [List.length_append]; simp
   ·obtain ⟨_,_,_,_,_,_,_,e3',_⟩:=h
    exact SqL.of (e3' _ _ hl)
   ·obtain ⟨R',W1,o5,o6,o7,o8,rfl,e4,hd4,hw4,xR4,nm4,ld4,wR4,cls4,done4,bnd4,wle4,ms4⟩:=h
    obtain ⟨t,et,p,rfl,hp'⟩:=Paired.at hp ex
    have tm:t ∈ ts:=List.mem_of_getElem? et
    have tk:ts.take (j + 1)=ts.take j ++ [t]:=by rw [List.take_add_one,et]; rfl
    refine ⟨p,_,rfl,SqT.of (e4 _ _ hp'),rfl,_,_,rfl,_,_,rfl,_,_,rfl,_,[],rfl,rfl,?_⟩
    have stay:∀ H5,H5=H3→(t.2.1=nm→t.2.2.1 ∈ R')→∃ (R' W1:List Str) (o5 o6 o7 o8:Option V),([some (.ref l),some (.str x),some (.ref d),some (.ref wl),some (.str nm),some (.int t.1),some (.str t.2.1),some (.str t.2.2.1),some (.int t.2.2.2)]:St)=[some (.ref l),some (.str x),some (.ref d),some (.ref wl),some (.str nm),o5,o6,o7,o8]∧Same H H5∧H5 d=some (namesD R')∧H5 wl=some (.lst (W1.map V.str))∧
      x ∈ R'∧nm ∈ R'∧(∀ y ∈ R',Leads ts x y)∧(∀ y ∈ W1,y ∈ R')∧(∀ t ∈ ts,t.2.1 ∈ R'→¬ t.2.1 ∈ W1→t.2.1 ≠ nm→t.2.2.1 ∈ R')∧(∀ t ∈ ts.take (j + 1),t.2.1=nm→t.2.2.1 ∈ R')∧R'.length + outs ts R' ≤ 1 + ts.length∧W1.length ≤ R'.length∧2 * outs ts R' + W1.length < 2 * outs ts R + (W' ++ [nm]).length:=fun H5 eH ht=>by
     subst eH
     refine ⟨R',W1,_,_,_,_,rfl,e4,hd4,hw4,xR4,nm4,ld4,wR4,cls4,fun u hu hun=>?_,bnd4,wle4,ms4⟩
     rw [tk] at hu
     rcases List.mem_append.mp hu with z | z
     ·exact done4 u z hun
     ·rw [List.mem_singleton.mp z] at hun ⊢
      exact ht hun
    refine ⟨_,fun σ' H' h=>h,?_⟩
    refine ⟨_,rfl,_,rfl,rfl,_,rfl,ite2 (fun h1=>?_) (fun h1=>iteF (stay H3 rfl fun z=>absurd (decide_eq_true (by rw [z])) h1))⟩
    have h1:t.2.1=nm:=by have:=of_decide_eq_true h1; injection this
    refine ⟨_,rfl,_,rfl,d,_,rfl,DGet.k (k:=Sum.inr t.2.2.1) hd4,_,rfl,?_⟩
    cases hs:(valV (R'.map fun y=>((Sum.inr y:Key),V.bl true)) (Sum.inr t.2.2.1)).isSome with
    | true=>exact iteF (stay H3 rfl fun _=>(names_val R' _).mp hs)
    | false=>
     have nin:¬ t.2.2.1 ∈ R':=fun z=>by rw [(names_val R' _).mpr z] at hs; cases hs
     refine iteT ?_
     refine ⟨_,rfl,_,rfl,d,_,rfl,DPut.k (k:=Sum.inr t.2.2.1) hd4 (by rw [List.length_map]; show R'.length < 2 ^ 24; omega),?_⟩
     rw [putK_new _ (names_none nin)]
     have hw5:upd H3 d (.dK ((R'.map fun y=>((Sum.inr y:Key),V.bl true)) ++ [(Sum.inr t.2.2.1,.bl true)])) wl=some (.lst (W1.map V.str)):=by rw [upd_ne nwd]; exact hw4
     refine ⟨_,rfl,.inl ⟨rfl,_,SqL.of hw5⟩,_,rfl,wl,_,_,rfl,rfl,hw5,by rw [List.length_map]; show W1.length < 2 ^ 24; omega,?_⟩
     have ol:=outs_lt tm nin
     refine ⟨R' ++ [t.2.2.1],W1 ++ [t.2.2.1],_,_,_,_,rfl,same_new (same_new e4 hd) hwl0,?_,?_,by simp [xR4],by simp [nm4],fun y hy=>?_,fun y hy=>?_,fun u hu hu1 hu2 hu3=>?_,fun u hu hun=>?_,?_,?_,?_⟩
     ·rw [upd_ne nwd.symm,upd_same]
      unfold namesD
      rw [List.map_append]
      rfl
     ·rw [upd_same,List.map_append]
      rfl
     ·rcases List.mem_append.mp hy with z | z
      ·exact ld4 y z
      ·rw [List.mem_singleton.mp z]
       exact .step tm (h1 ▸ ld4 nm nm4)
     ·rcases List.mem_append.mp hy with z | z
      ·exact List.mem_append_left _ (wR4 y z)
      ·exact List.mem_append_right _ z
     ·have hu1':u.2.1 ∈ R':=by
       rcases List.mem_append.mp hu1 with z | z
       ·exact z
       ·exact absurd (List.mem_append_right _ z) hu2
      exact List.mem_append_left _ (cls4 u hu hu1' (fun z=>hu2 (List.mem_append_left _ z)) hu3)
     ·rw [tk] at hu
      rcases List.mem_append.mp hu with z | z
      ·exact List.mem_append_left _ (done4 u z hun)
      ·rw [List.mem_singleton.mp z]
       simp
     ·rw [List.length_append]
      show R'.length + 1 + _ ≤ _
      omega
     ·rw [List.length_append,List.length_append]
      show W1.length + 1 ≤ R'.length + 1
      omega
     ·have:(W1 ++ [t.2.2.1]).length=W1.length + 1:=by simp
      rw [this]
      omega
   ·obtain ⟨R',W1,o5,o6,o7,o8,rfl,e4,hd4,hw4,xR4,nm4,ld4,wR4,cls4,done4,bnd4,wle4,ms4⟩:=h
    rw [hxl,List.take_length] at done4
    refine ⟨_,ms4,R',W1,_,_,_,_,_,rfl,e4,hd4,hw4,xR4,ld4,wR4,fun t ht h1 h2=>?_,bnd4,wle4,rfl⟩
    by_cases h3:t.2.1=nm
    ·exact done4 t ht h3
    ·exact cls4 t ht h1 h2 h3
  ·have hc:Wt=[]:=by
    cases Wt with
    | nil=>rfl
    | cons y Wt=>exact absurd (decide_eq_true (by rw [List.length_map,List.length_cons]; omega)) hc
   subst hc
   refine ⟨_,rfl,q d H2 R e2 hd hd2 fun y=>⟨ld y,fun h=>?_⟩⟩
   induction h with
   | refl=>exact xR
   | step ht _ ih=>exact cls _ ht ih (by simp)
end
end K31
set_option maxRecDepth 100000
namespace K31
open PySem L2
open PyProof.Rows (boot_list boot_int boot_bool boot_tuple boot_str boot_dict boot_all)
structure Xt where
  intoHouse : Addr
  ringMade : Addr
  noNumber : Addr
  tooMany : Addr
structure TxtY (K : PySem.W.Frag) (mg : Str → Option Value) (x : Xt) : Prop where
  c_IntoHouse : mg "IntoHouse" = some (.ref x.intoHouse)
  x_IntoHouse : PySem.W.excIn K x.intoHouse mroVE "ValueError.__new__" = true
  c_RingMade : mg "RingMade" = some (.ref x.ringMade)
  x_RingMade : PySem.W.excIn K x.ringMade mroVE "ValueError.__new__" = true
  c_NoNumber : mg "NoNumber" = some (.ref x.noNumber)
  x_NoNumber : PySem.W.excIn K x.noNumber mroVE "ValueError.__new__" = true
  c_TooMany : mg "TooMany" = some (.ref x.tooMany)
  x_TooMany : PySem.W.excIn K x.tooMany mroVE "ValueError.__new__" = true
section
variable {P : Program} {w : World} {K : PySem.W.Frag} {mg : Str → Option Value} {base : Heap}
def sp_there (c:Cl):Sp:=fun vs H Q _=>∃ (n dp dt:Addr) (S:NS) (x:Str),vs=[.ref n,.str x]∧NetAt c H n dp dt S∧x ∈ S.names∧Q .non H
abbrev s_Net_check_there:Stmt:=inClass (top 36) 8
theorem sc_Net_check_there:FnScope ["self","name"] ["self","name"] (defScope s_Net_check_there):=⟨rfl,rfl,rfl,by decide +kernel,rfl,by decide +kernel,by decide +kernel⟩
theorem ok_Net_check_there {c:Cl} {f:Addr} {fd:FuncData} (F:Fun K "check_there" "Net.check_there" s_Net_check_there f fd) (O:Cl.Ok K c):FnOk P w K mg base CX0 1 f fd ["self","name"] (sp_there c):=by
 refine F.ok sc_Net_check_there (fun vs H Q E h=>?_) (fun cdv A outer s H vs Q E hr h=>?_)
 ·obtain ⟨n,dp,dt,S,x,rfl,_⟩:=h
  rfl
 ·obtain ⟨n,dp,dt,S,x,rfl,N,hx,q⟩:=h
  obtain ⟨dx,h1⟩:=N.ins
  obtain ⟨kvs,hd,hp⟩:=N.posts
  refine ⟨_,(pss_one (ps_if (pt_cmp (pc_dnotin (hu_of hr) (pv 1) (fldK K (pv 0) rfl)))
  (pss_one ps_never)
  pss_nil)),?_⟩
  refine ⟨_,rfl,_,rfl,n,c.net,dx,_,_,rfl,h1,O.cn,O.fp,rfl,dp,_,rfl,DGet.k (k:=Sum.inr x) hd,_,rfl,?_⟩
  rw [(val_some (x:=x) hp).mpr hx]
  exact iteF q
theorem val_post {c:Cl} {H:Hp} {x:Str}:∀ {kvs:List (Key × V)} {ps:List (Str × Kd)},Paired (fun (kv:Key × V) p=>kv.1=Sum.inr p.1∧PostAt c H kv.2 p) kvs ps→x ∈ ps.map (·.1)→∃ v p,valV kvs (Sum.inr x)=some v∧p ∈ ps∧p.1=x∧PostAt c H v p∧ps.find? (fun p=>decide (p.1=x))=some p
 | _,_,.nil,h=>by simp at h
 | kv :: kvs,p :: ps,.cons ⟨e,pa⟩ r,h=>by
  by_cases hx:p.1=x
  ·exact ⟨kv.2,p,valV_pos (by rw [e,hx]),by simp,hx,pa,by rw [List.find?_cons,decide_eq_true hx]⟩
  ·have h':x ∈ ps.map (·.1):=by
    rcases List.mem_map.mp h with ⟨q,hq,e2⟩
    rcases List.mem_cons.mp hq with z | z
    ·rw [z] at e2; exact absurd e2 hx
    ·exact List.mem_map.mpr ⟨q,z,e2⟩
   obtain ⟨v,q,a1,a2,a3,a4,a5⟩:=val_post r h'
   exact ⟨v,q,by rw [valV_neg (by rw [e]; exact fun z=>hx (Sum.inr.inj z))]; exact a1,by simp [a2],a3,a4,by rw [List.find?_cons,decide_eq_false hx]; exact a5⟩
def NS.kind (S:NS) (x:Str):Kd:=((S.posts.find? fun p=>decide (p.1=x)).map (·.2)).getD .post
def sp_ends (c:Cl) (X:Xt):Sp:=fun vs H Q E=>∃ (n dp dt:Addr) (S:NS) (x y:Str),vs=[.ref n,.str x,.str y]∧NetAt c H n dp dt S∧x ∈ S.names∧y ∈ S.names∧S.ties.length ≤ 1000∧
 (hrB (S.kind y)=false→∀ H',Same H H'→E (.ref X.intoHouse) none H')∧(hrB (S.kind y)=true→Leads S.ties y x→∀ H',Same H H'→E (.ref X.ringMade) none H')∧(hrB (S.kind y)=true→¬ Leads S.ties y x→∀ H',Same H H'→Q .non H')
abbrev s_Net_check_ends:Stmt:=inClass (top 36) 7
theorem sc_Net_check_ends:FnScope ["self","one","other"] ["self","one","other"] (defScope s_Net_check_ends):=⟨rfl,rfl,rfl,by decide +kernel,rfl,by decide +kernel,by decide +kernel⟩
theorem ok_Net_check_ends {c:Cl} {X:Xt} {f:Addr} {fd:FuncData} (F:Fun K "check_ends" "Net.check_ends" s_Net_check_ends f fd) (O:Cl.Ok K c) (TX:TxtY K mg X) (D_hears:∀ C,IsPost c C→Dm P w K mg base 1 C "hears" ["self"] (sp_hearsC c C))
  (D_Net_check_there:Dm P w K mg base 1 c.net "check_there" ["self","name"] (sp_there c)) (D_Net_ties:Dm P w K mg base 1 c.net "ties" ["self"] (sp_ties c)) (D_led_to:Df P w K mg base 1 "led_to" ["ties","start"] sp_led_to):FnOk P w K mg base (CXE P w) 2 f fd ["self","one","other"] (sp_ends c X):=by
 refine F.okX sc_Net_check_ends (fun vs H Q E h=>?_) (fun cdv A outer s H vs Q E hr h=>?_)
 ·obtain ⟨n,dp,dt,S,x,y,rfl,_⟩:=h
  rfl
 ·obtain ⟨n,dp,dt,S,x,y,rfl,N,hx,hy,hz,q1,q2,q3⟩:=h
  obtain ⟨dx,h1⟩:=id N.ins
  obtain ⟨kvs,hd,hp⟩:=id N.posts
  refine ⟨_,(pss_cons (ps_expr (pe_methD (pv 0) D_Net_check_there (hr.mono (by decide)) (pa_cons (pv 1) pa_nil)))
 (pss_cons (ps_expr (pe_methD (pv 0) D_Net_check_there (hr.mono (by decide)) (pa_cons (pv 2) pa_nil)))
 (pss_cons (ps_if (pt_not (pt_val (pe_meth0C (pe_dget (hu_of hr) (fldK K (pv 0) rfl) (pv 2) (fun _ _=>rfl)) D_hears (hr.mono (by decide)))))
  (pss_one (ps_raise0 rfl made_def rfl TX.c_IntoHouse TX.x_IntoHouse))
  pss_nil)
 (pss_one (ps_if (pt_cmp (pc_din (hu_of hr) (pv 1) (pe_callD D_led_to (hr.mono (by decide)) rfl (pa_cons (pe_meth0D (pv 0) D_Net_ties (hr.mono (by decide))) (pa_cons (pv 2) pa_nil)))))
  (pss_one (ps_raise0 rfl made_def rfl TX.c_RingMade TX.x_RingMade))
  pss_nil))))),?_⟩
  refine ⟨_,rfl,n,dx,_,rfl,h1,rfl,_,rfl,n,dp,dt,S,x,rfl,N,hx,?_⟩
  refine ⟨_,rfl,n,dx,_,rfl,h1,rfl,_,rfl,n,dp,dt,S,y,rfl,N,hy,?_⟩
  obtain ⟨v,p,hv,_,_,⟨a,dxa,rfl,ha⟩,hf⟩:=val_post hp hy
  have hk:S.kind y=p.2:=by unfold NS.kind; rw [hf]; rfl
  refine ⟨_,rfl,n,c.net,dx,_,_,rfl,h1,O.cn,O.fp,rfl,_,rfl,dp,_,rfl,hv ▸ DGet.k (k:=Sum.inr y) hd,a,c.of p.2,dxa,_,rfl,⟨_,rfl⟩,ha,rfl,_,rfl,_,rfl,?_⟩
  rw [hears_of O,← hk]
  cases hb:hrB (S.kind y) with
  | false=>exact iteT (q1 hb H (Same.refl _))
  | true=>
   refine iteF ?_
   refine ⟨_,rfl,_,rfl,n,dx,_,rfl,h1,rfl,n,dp,dt,S,rfl,N,hz,fun l H1 e1 h01 hl1=>?_⟩
   refine ⟨_,rfl,l,S.ties,y,rfl,hl1,hz,fun d H2 R e2 h02 hd2 hR=>?_⟩
   refine ⟨d,_,rfl,DGet.k (k:=Sum.inr x) hd2,_,rfl,?_⟩
   cases hs:(valV (R.map fun y=>((Sum.inr y:Key),V.bl true)) (Sum.inr x)).isSome with
   | true=>exact iteT (q2 hb ((hR x).mp ((names_val R x).mp hs)) H2 (e1.trans e2))
   | false=>exact iteF (q3 hb (fun z=>by rw [(names_val R x).mpr ((hR x).mpr z)] at hs; cases hs) H2 (e1.trans e2))
end
end K31
set_option maxRecDepth 100000
namespace K31
open PySem L2
open PyProof.Rows (boot_list boot_int boot_bool boot_tuple boot_str boot_dict boot_all)
def NS.tie (S:NS) (x y:Str) (d:Int):NS:={ S with ties:=S.ties ++ [(S.next,x,y,d)],next:=S.next + 1 }
def NS.cut (S:NS) (k:Int):NS:={ S with ties:=S.ties.filter fun t=>decide (t.1 ≠ k) }
def But2 (n d:Addr) (H H':Hp):Prop:=∀ a o,a ≠ n→a ≠ d→H a=some o→H' a=some o
theorem val_tie {H:Hp} {k:Int}:∀ {kvs:List (Key × V)} {ts:List Tie},Paired (fun (kv:Key × V) (t:Tie)=>kv.1=Sum.inl t.1∧TieAt H kv.2 t) kvs ts→((valV kvs (Sum.inl k)).isSome=true ↔ k ∈ ts.map (·.1))
 | _,_,.nil=>by simp [valV]
 | kv :: kvs,t :: ts,.cons ⟨e,_⟩ r=>by
  by_cases h:t.1=k
  ·rw [valV_pos (by rw [e,h])]
   simp [h]
  ·rw [valV_neg (by rw [e]; exact fun z=>h (Sum.inl.inj z)),val_tie r]
   simp [Ne.symm h]
section
variable {P : Program} {w : World} {K : PySem.W.Frag} {mg : Str → Option Value} {base : Heap}
def sp_tie (c:Cl) (X:Xt):Sp:=fun vs H Q E=>∃ (n dp dt:Addr) (S:NS) (x y:Str) (d:Int),vs=[.ref n,.str x,.str y,.int d]∧NetAt c H n dp dt S∧x ∈ S.names∧y ∈ S.names∧S.ties.length ≤ 1000∧(∀ t ∈ S.ties,t.1 < S.next)∧
 (hrB (S.kind y)=false→∀ H',Same H H'→E (.ref X.intoHouse) none H')∧(hrB (S.kind y)=true→Leads S.ties y x→∀ H',Same H H'→E (.ref X.ringMade) none H')∧
 (hrB (S.kind y)=true→¬ Leads S.ties y x→isDelay d=false→∀ H',Same H H'→E (.ref X.noNumber) none H')∧(hrB (S.kind y)=true→¬ Leads S.ties y x→isDelay d=true→40 ≤ S.ties.length→∀ H',Same H H'→E (.ref X.tooMany) none H')∧
 (hrB (S.kind y)=true→¬ Leads S.ties y x→isDelay d=true→S.ties.length < 40→∀ H',But2 n dt H H'→NetAt c H' n dp dt (S.tie x y d)→Q (.int S.next) H')
abbrev s_Net_tie:Stmt:=inClass (top 36) 6
theorem sc_Net_tie:FnScope ["self","one","other","delay","number"] ["self","one","other","delay"] (defScope s_Net_tie):=⟨rfl,rfl,rfl,by decide +kernel,rfl,by decide +kernel,by decide +kernel⟩
theorem ok_Net_tie {c:Cl} {X:Xt} {f:Addr} {fd:FuncData} (F:FunD K "tie" "Net.tie" s_Net_tie f fd) (O:Cl.Ok K c) (T:TxtN mg) (TH:TxtH mg) (TX:TxtY K mg X) (D_Net_check_ends:DmX P w K mg base 2 c.net "check_ends" ["self","one","other"] (sp_ends c X)) (D_is_delay:Df P w K mg base 2 "is_delay" ["number"] sp_is_delay):
  FnOk P w K mg base (CXE P w) 3 f fd ["self","one","other","delay"] (sp_tie c X):=by
 obtain ⟨tl,hg_MOST_TIES⟩:=TH.mot
 refine F.okX sc_Net_tie (fun vs H Q E h=>?_) (fun cdv A outer s H vs Q E hr h=>?_)
 ·obtain ⟨n,dp,dt,S,x,y,d,rfl,_⟩:=h
  rfl
 ·obtain ⟨n,dp,dt,S,x,y,d,rfl,N,hx,hy,hz,hnum,q1,q2,q3,q4,q5⟩:=h
  have ND:=sc_Net_tie.nd
  obtain ⟨dx,h1⟩:=id N.ins
  obtain ⟨kvs,hd,hp⟩:=id N.ties
  have hl:=Paired.length hp
  refine ⟨_,(pss_cons (ps_expr (pe_methX on_def (pv 0) D_Net_check_ends (hr.mono (by decide)) (pa_cons (pv 1) (pa_cons (pv 2) pa_nil))))
 (pss_cons (ps_if (pt_not (pt_val (pe_callD D_is_delay (hr.mono (by decide)) rfl (pa_cons (pv 3) pa_nil))))
  (pss_one (ps_raise0 rfl made_def rfl TX.c_NoNumber TX.x_NoNumber))
  pss_nil)
 (pss_cons (ps_if (pt_cmpR op_ge (pe_callB call_len_dK rfl T.n_len boot_len (pa_cons (fldK K (pv 0) rfl) pa_nil)) (pe_glob (v:=.int 40) rfl hg_MOST_TIES ⟨_,rfl⟩) (nomark _))
  (pss_one (ps_raise0 rfl made_def rfl TX.c_TooMany TX.x_TooMany))
  pss_nil)
 (pss_cons (ps_set (i:=4) ND rfl (by first | exact Or.inl rfl | exact Or.inr rfl) (fldK K (pv 0) rfl))
 (pss_cons (ps_dput (hu_of hr) (fldK K (pv 0) rfl) (pv 4) (pe_tupS (pa_cons (pv 4) (pa_cons (pv 1) (pa_cons (pv 2) (pa_cons (pv 3) pa_nil))))) rfl)
 (pss_cons (ps_fld (pv 0) (pe_op op_add (pv 4) pe_int) rfl)
 (pss_one (ps_ret (pv 4))))))))),?_⟩
  refine ⟨_,rfl,n,dx,_,rfl,h1,rfl,_,rfl,_,rfl,n,dp,dt,S,x,y,rfl,N,hx,hy,hz,q1,q2,fun hb hL H1 e1=>?_⟩
  refine ⟨_,rfl,d,rfl,_,rfl,?_⟩
  cases hi:isDelay d with
  | false=>exact iteT (q3 hb hL hi H1 e1)
  | true=>
   refine iteF ?_
   refine ⟨_,rfl,n,c.net,dx,_,_,rfl,e1 _ _ h1,O.cn,O.ft,rfl,dt,kvs,rfl,e1 _ _ hd,_,_,rfl,rfl,_,rfl,ite2 (fun g=>?_) (fun g=>?_)⟩
   ·exact q4 hb hL hi (by have:=of_decide_eq_true g; omega) H1 e1
   ·have g:S.ties.length < 40:=by
     have:¬ (40:Int) ≤ (kvs.length:Int):=fun z=>g (decide_eq_true z)
     omega
    refine ⟨_,rfl,n,c.net,dx,_,_,rfl,e1 _ _ h1,O.cn,O.fn,rfl,?_⟩
    refine ⟨_,rfl,_,rfl,_,rfl,_,rfl,(by show 4 ≤ sizeLine; decide),fun tp H2 e2 h02 htp=>?_⟩
    have e12:=e1.trans e2
    have hv:valV kvs (Sum.inl S.next)=none:=by
     cases hs:valV kvs (Sum.inl S.next) with
     | none=>rfl
     | some v=>
      obtain ⟨t,ht,et⟩:=List.mem_map.mp ((val_tie (k:=S.next) hp).mp (by rw [hs]; rfl))
      have:=hnum t ht
      omega
    have nnt:n ≠ dt:=ne_of h1 hd (fun z=>nomatch z)
    refine ⟨_,rfl,n,c.net,dx,_,_,rfl,e12 _ _ h1,O.cn,O.ft,rfl,_,rfl,dt,_,rfl,DPut.k (k:=Sum.inl S.next) (e12 _ _ hd) (by show kvs.length < 2 ^ 24; omega),?_⟩
    rw [putK_new _ hv]
    refine ⟨_,rfl,_,_,rfl,rfl,_,rfl,n,c.net,dx,_,rfl,by rw [upd_ne nnt]; exact e12 _ _ h1,O.cn,O.fn,(by show 3 < 1000; decide),?_⟩
    have b2:But2 n dt H (upd (upd H2 dt (.dK (kvs ++ [(Sum.inl S.next,.ref tp)]))) n (.ins c.net dx [("kept_posts",.ref dp),("kept_ties",.ref dt),("next_number",.int (S.next + 1))])):=fun a o na nd ha=>by
     rw [upd_ne na,upd_ne nd]; exact e12 _ _ ha
    refine ⟨_,rfl,q5 hb hL hi g _ b2 ?_⟩
    obtain ⟨_,⟨kp,h2,p2⟩,_,h4⟩:=N
    have keepP:∀ {v:V} {q:Str × Kd},PostAt c H v q→v ≠ .ref n→PostAt c _ v q:=fun {v q} ⟨b,dxb,eb,hb⟩ hne=>⟨b,dxb,eb,b2 b _ (fun z=>hne (by rw [eb,z])) (ne_of hb hd (fun z=>nomatch z)) hb⟩
    have keepT:∀ {v:V} {t:Tie},TieAt H v t→TieAt _ v t:=fun {v t} ⟨b,eb,hb⟩=>⟨b,eb,b2 b _ (ne_of hb h1 (fun z=>nomatch z)) (ne_of hb hd (fun z=>nomatch z)) hb⟩
    have ntp:tp ≠ n:=(ne_of_none (e1 _ _ h1) h02).symm
    have ntd:tp ≠ dt:=(ne_of_none (e1 _ _ hd) h02).symm
    refine ⟨⟨dx,upd_same⟩,⟨kp,b2 dp _ (ne_of h2 h1 (fun z=>nomatch z)) h4 h2,Paired.mapP p2 fun kv p ⟨a1,a2⟩=>⟨a1,keepP a2 ?_⟩⟩,⟨kvs ++ [(Sum.inl S.next,.ref tp)],by rw [upd_ne nnt.symm]; exact upd_same,Paired.snoc' (Paired.mapP hp fun _ _ ⟨a1,a2⟩=>⟨a1,keepT a2⟩) ⟨rfl,tp,rfl,?_⟩⟩,h4⟩
    ·obtain ⟨b,dxb,eb,hb'⟩:=a2
     rintro z
     rw [z] at eb
     cases eb
     rw [h1] at hb'
     injection hb' with hb'
     injection hb' with _ _ hb'
     cases hb'
    ·rw [upd_ne ntp,upd_ne ntd]
     exact htp
end
end K31
set_option maxRecDepth 100000
namespace K31
open PySem L2 L2.Wy
open PyProof.Rows (boot_list boot_int boot_bool boot_tuple boot_str boot_dict boot_all)
def usedD (U:List Int):HO:=.dK (U.map fun k=>((Sum.inl k:Key),V.bl true))
theorem used_val (U:List Int) (k:Int):(valV (U.map fun k=>((Sum.inl k:Key),V.bl true)) (Sum.inl k)).isSome=decide (k ∈ U):=by
 induction U with
 | nil=>simp [valV]
 | cons r U ih=>
  rw [List.map_cons]
  by_cases h:r=k
  ·rw [valV_pos (by rw [h])]
   simp [h]
  ·rw [valV_neg (fun z=>h (Sum.inl.inj z)),ih]
   simp [Ne.symm h]
def oS:Option Str→V
 | none=>.non
 | some z=>.str z
theorem inV_ints (x:Int):∀ zs:List Int,inV (.int x) (zs.map V.int)=decide (x ∈ zs)
 | []=>by simp [inV]
 | z :: zs=>by
  have ih:=inV_ints x zs
  unfold inV at ih ⊢
  rw [List.map_cons,List.any_cons,ih]
  by_cases h:x=z
  ·subst h
   have:eqV (V.int x) (V.int x)=true:=by show decide _=true; simp
   rw [this]
   simp
  ·have:eqV (V.int z) (V.int x)=false:=by show decide _=false; simp [Ne.symm h]
   rw [this]
   simp [h]
theorem flat_ints (zs:List Int):(zs.map V.int).all flatV=true:=by
 rw [List.all_map,List.all_eq_true]
 intro z _
 rfl
theorem kept_rows {H:Hp} {xs:List V} {ts:List Tie} (hp:Paired (TieAt H) xs ts) (keep:Tie→Bool):Paired (TieAt H) (((List.range xs.length).filter fun i=>keep (ts.getD i (0,"","",0))).map fun i=>xs.getD i .non) (ts.filter keep):=by
 have hxl:=Paired.length hp
 have e:((List.range xs.length).filter fun i=>keep (ts.getD i (0,"","",0))).map (fun i=>xs.getD i .non)=((xs.zip ts).filter fun z=>keep z.2).map (·.1):=by
  have hzl:(xs.zip ts).length=xs.length:=by rw [List.length_zip]; omega
  rw [← hzl]
  exact range_filter_map (xs.zip ts) (fun z=>keep z.2) (·.1) _ _ fun j z ez=>by
   obtain ⟨q1,q2⟩:=List.getElem?_zip_eq_some.mp ez
   rw [List.getD_eq_getElem?_getD,q2,List.getD_eq_getElem?_getD,q1]
   exact ⟨rfl,rfl⟩
 rw [e]
 clear e hxl
 induction hp with
 | nil=>exact .nil
 | @cons a b l1 l2 h hp ih=>
  rw [List.zip_cons_cons,List.filter_cons,List.filter_cons]
  cases hk:keep b with
  | true=>
   show Paired (TieAt H) (List.map (·.1) ((a,b) :: _)) (b :: _)
   exact .cons h ih
  | false=>exact ih
def stand (ts:List Tie):Option (List Int)→List Tie
 | none=>ts
 | some fs=>ts.filter fun t=>!decide (t.1 ∈ fs)
def FallAt (H:Hp):V→Option (List Int)→Prop
 | v,none=>v=.non
 | v,some fs=>∃ l,v=.ref l∧H l=some (.lst (fs.map V.int))
section
variable {P : Program} {w : World} {K : PySem.W.Frag} {mg : Str → Option Value} {base : Heap}
def sp_standing_ties (c:Cl):Sp:=fun vs H Q _=>∃ (n dp dt:Addr) (S:NS) (fv:V) (fo:Option (List Int)),vs=[.ref n,fv]∧NetAt c H n dp dt S∧S.ties.length ≤ 1000∧FallAt H fv fo∧∀ l H',Same H H'→H l=none→TiesAt H' l (stand S.ties fo)→Q (.ref l) H'
abbrev s_standing_ties:Stmt:=top 12
theorem sc_standing_ties:FnScope ["net","fallen"] ["net","fallen"] (defScope s_standing_ties):=⟨rfl,rfl,rfl,by decide +kernel,rfl,by decide +kernel,by decide +kernel⟩
theorem ok_standing_ties {c:Cl} {f:Addr} {fd:FuncData} (F:Fun K "standing_ties" "standing_ties" s_standing_ties f fd) (D_Net_ties:Dm P w K mg base 1 c.net "ties" ["self"] (sp_ties c)):FnOk P w K mg base CX0 2 f fd ["net","fallen"] (sp_standing_ties c):=by
 refine F.ok sc_standing_ties (fun vs H Q E h=>?_) (fun cdv A outer s H vs Q E hr h=>?_)
 ·obtain ⟨n,dp,dt,S,fv,fo,rfl,_⟩:=h
  rfl
 ·obtain ⟨n,dp,dt,S,fv,fo,rfl,N,hz,hf,q⟩:=h
  have ND:=sc_standing_ties.nd
  obtain ⟨dx,h1⟩:=id N.ins
  refine ⟨_,(pss_cons (ps_if (pt_cmpR op_isN (pv 1) pe_non (nomark _))
  (pss_one (ps_ret (pe_meth0D (pv 0) D_Net_ties (hr.mono (by decide)))))
  pss_nil)
 (pss_one (ps_ret (pe_comp rfl (compScope_of (nT:=1) (js:=[1]) (N':=["tie","fallen"]) rfl rfl (by kernel_rfl)) (pilK K (pe_meth0D (pv 0) D_Net_ties (hr.mono (by decide))))
  (fun _ _ _ _ _=>(pg_name (i:=0) (show List.Nodup (["tie","fallen"]:List Str) by decide +kernel) rfl (by first | exact Or.inl rfl | exact Or.inr rfl)))
  (fun _ _ _ _ _=>(pif_one (pt_cmpR (notinK K) (pe_ix (ixtK K) (pv 0) pe_int (fun _ _=>rfl)) (pv 1) (by with_unfolding_all rfl))))
  (fun _ _ _ _ _=>(pv 0)))))),?_⟩
  cases fo with
  | none=>
   have hf:fv=.non:=hf
   subst hf
   exact ⟨_,rfl,rfl,_,rfl,iteT ⟨_,rfl,n,dx,_,rfl,h1,rfl,n,dp,dt,S,rfl,N,hz,q⟩⟩
  | some fs=>
   obtain ⟨lf,rfl,hlf⟩:=hf
   refine ⟨_,rfl,rfl,_,rfl,iteF ⟨_,rfl,n,dx,_,rfl,h1,rfl,n,dp,dt,S,rfl,N,hz,fun l H1 e1 h01 hl=>?_⟩⟩
   obtain ⟨xs,hx,hp⟩:=hl
   have hxl:=Paired.length hp
   refine ⟨l,rfl,⟨_,SqL.of hx⟩,compG_list (K:=K) (fun i=>!decide ((S.ties.getD i (0,"","",0)).1 ∈ fs)) (fun i=>xs.getD i .non) hx (by omega) (fun j x H2 ex e2=>?_) (fun l2 H2 h2 e2 hl2=>?_)⟩
   ·obtain ⟨t,et,p,rfl,hpt⟩:=Paired.at hp ex
    have eg:S.ties.getD j (0,"","",0)=t:=by rw [List.getD_eq_getElem?_getD,et]; rfl
    have egx:xs.getD j .non=.ref p:=by rw [List.getD_eq_getElem?_getD,ex]; rfl
    rw [eg,egx]
    refine ⟨_,rfl,p,_,0,_,rfl,rfl,SqT.of (e2 _ _ hpt),rfl,_,rfl,lf,_,rfl,.inl (SqL.of (e2 _ _ (e1 _ _ hlf))),rfl,flat_ints fs,_,rfl,?_⟩
    rw [if_pos rfl,inV_ints]
    cases hd:decide (t.1 ∈ fs) with
    | true=>exact iteF ⟨rfl,Same.refl _⟩
    | false=>exact iteT ⟨_,rfl,rfl,rfl,Same.refl _⟩
   ·refine q l2 H2 (e1.trans e2) (e1.free h2) ⟨_,hl2,?_⟩
    exact Paired.imp' (fun v t ⟨a,ha,hb⟩=>⟨a,ha,e2 _ _ hb⟩) (kept_rows hp fun t=>!decide (t.1 ∈ fs))
def sp_step_over:Sp:=fun vs H Q _=>∃ (v:V) (t:Tie) (x:Str) (u:Addr) (U:List Int),vs=[v,.str x,.ref u]∧TieAt H v t∧H u=some (usedD U)∧Q (oS (stp t x (inU U))) H
abbrev s_step_over:Stmt:=top 14
theorem sc_step_over:FnScope ["tie","name","used"] ["tie","name","used"] (defScope s_step_over):=⟨rfl,rfl,rfl,by decide +kernel,rfl,by decide +kernel,by decide +kernel⟩
theorem ok_step_over {f:Addr} {fd:FuncData} (F:Fun K "step_over" "step_over" s_step_over f fd):FnOk P w K mg base CX0 1 f fd ["tie","name","used"] sp_step_over:=by
 refine F.ok sc_step_over (fun vs H Q E h=>?_) (fun cdv A outer s H vs Q E hr h=>?_)
 ·obtain ⟨v,t,x,u,U,rfl,_⟩:=h
  rfl
 ·obtain ⟨v,t,x,u,U,rfl,⟨p,rfl,hp⟩,hu,q⟩:=h
  refine ⟨_,(pss_cons (ps_if (pt_cmp (pc_din (hu_of hr) (pe_ix (ixtK K) (pv 0) pe_int (fun _ _=>rfl)) (pv 2)))
  (pss_one (ps_ret (pe_ifExp (pt_cmpR op_eq (pe_ix (ixtK K) (pv 0) pe_int (fun _ _=>rfl)) (pv 1) (nomark _)) (pe_ix (ixtK K) (pv 0) pe_int (fun _ _=>rfl)) pe_non)))
  pss_nil)
 (pss_one (ps_ret (pe_ifExp (pt_cmpR op_eq (pe_ix (ixtK K) (pv 0) pe_int (fun _ _=>rfl)) (pv 1) (nomark _)) (pe_ix (ixtK K) (pv 0) pe_int (fun _ _=>rfl)) pe_non)))),?_⟩
  have sq:=SqT.of (K:=K) hp
  refine ⟨_,rfl,p,_,0,_,rfl,rfl,sq,rfl,_,rfl,u,_,rfl,DGet.k (k:=Sum.inl t.1) hu,_,rfl,?_⟩
  rw [used_val]
  unfold stp inU at q
  cases hd:decide (t.1 ∈ U) with
  | true=>
   rw [hd,if_pos rfl] at q
   refine iteT ⟨_,rfl,p,_,2,_,rfl,rfl,sq,rfl,_,rfl,rfl,_,rfl,?_⟩
   by_cases hx:t.2.2.1=x
   ·rw [if_pos hx] at q
    rw [decide_eq_true (show V.str t.2.2.1=V.str x by rw [hx])]
    exact iteT ⟨_,rfl,p,_,1,_,rfl,rfl,sq,rfl,q⟩
   ·rw [if_neg hx] at q
    rw [decide_eq_false (show ¬ V.str t.2.2.1=V.str x from fun z=>hx (by injection z))]
    exact iteF q
  | false=>
   rw [hd,if_neg (by decide)] at q
   refine iteF ⟨_,rfl,p,_,1,_,rfl,rfl,sq,rfl,_,rfl,rfl,_,rfl,?_⟩
   by_cases hx:t.2.1=x
   ·rw [if_pos hx] at q
    rw [decide_eq_true (show V.str t.2.1=V.str x by rw [hx])]
    exact iteT ⟨_,rfl,p,_,2,_,rfl,rfl,sq,rfl,q⟩
   ·rw [if_neg hx] at q
    rw [decide_eq_false (show ¬ V.str t.2.1=V.str x from fun z=>hx (by injection z))]
    exact iteF q
def sp_tie_out_of:Sp:=fun vs H Q _=>∃ (l:Addr) (ts:List Tie) (x:Str) (t:Tie),vs=[.ref l,.str x]∧TiesAt H l ts∧outOf ts x=some t∧∀ v,TieAt H v t→Q v H
abbrev s_tie_out_of:Stmt:=top 18
theorem sc_tie_out_of:FnScope ["ties","name","tie"] ["ties","name"] (defScope s_tie_out_of):=⟨rfl,rfl,rfl,by decide +kernel,rfl,by decide +kernel,by decide +kernel⟩
theorem ok_tie_out_of {f:Addr} {fd:FuncData} (F:Fun K "tie_out_of" "tie_out_of" s_tie_out_of f fd):FnOk P w K mg base CX0 1 f fd ["ties","name"] sp_tie_out_of:=by
 refine F.ok sc_tie_out_of (fun vs H Q E h=>?_) (fun cdv A outer s H vs Q E hr h=>?_)
 ·obtain ⟨l,ts,x,t,rfl,_⟩:=h
  rfl
 ·obtain ⟨l,ts,x,t,rfl,⟨xs,hx,hp⟩,ho,q⟩:=h
  have ND:=sc_tie_out_of.nd
  have hxl:=Paired.length hp
  refine ⟨_,(pss_cons (ps_for PassesOwn.never rfl (pilK K (pv 0)) (pg_name (i:=2) ND rfl (by first | exact Or.inl rfl | exact Or.inr rfl))
  (pss_one (ps_if (pt_cmpR op_eq (pe_ix (ixtK K) (pv 2) pe_int (fun _ _=>rfl)) (pv 1) (nomark _))
  (pss_one (ps_ret (pv 2)))
  pss_nil)))
 (pss_one (ps_ret pe_non))),?_⟩
  refine ⟨_,rfl,l,rfl,⟨_,SqL.of hx⟩,for_list (K:=K) (xs:=xs) (fun i σ H'=>H'=H∧(∃ o,σ=[some (.ref l),some (.str x),o])∧∀ u ∈ ts.take i,¬ u.2.1=x)
   ⟨rfl,⟨_,rfl⟩,fun u hu=>by simp at hu⟩ (fun i σ H' _ h=>by rw [h.1]; exact SqL.of hx) ?_ ?_⟩
  ·rintro i v σ H' ev ⟨rfl,⟨o,rfl⟩,hno⟩
   obtain ⟨u,eu,p,rfl,hpu⟩:=Paired.at hp ev
   refine ⟨_,rfl,p,_,1,_,rfl,rfl,SqT.of hpu,rfl,_,rfl,rfl,_,rfl,?_⟩
   by_cases hux:u.2.1=x
   ·rw [decide_eq_true (show V.str u.2.1=V.str x by rw [hux])]
    have:u=t:=by
     have hf:outOf ts x=some u:=by
      unfold outOf
      rw [← List.take_append_drop i ts,List.find?_append,List.find?_eq_none.mpr (fun z hz=>by simpa using hno z hz)]
      have:ts.drop i=u :: ts.drop (i + 1):=by
       obtain ⟨hi,e⟩:=List.getElem?_eq_some_iff.mp eu
       rw [List.drop_eq_getElem_cons hi,e]
      rw [this,List.find?_cons,decide_eq_true hux]
      rfl
     exact Option.some.inj (hf.symm.trans ho)
    subst this
    exact iteT ⟨_,rfl,q _ ⟨p,rfl,hpu⟩⟩
   ·rw [decide_eq_false (show ¬ V.str u.2.1=V.str x from fun z=>hux (by injection z))]
    refine iteF ⟨rfl,⟨_,rfl⟩,fun z hz=>?_⟩
    have tk:ts.take (i + 1)=ts.take i ++ [u]:=by rw [List.take_add_one,eu]; rfl
    rw [tk] at hz
    rcases List.mem_append.mp hz with hz | hz
    ·exact hno z hz
    ·rw [List.mem_singleton.mp hz]; exact hux
  ·rintro σ H' ⟨rfl,⟨o,rfl⟩,hno⟩
   rw [hxl,List.take_length] at hno
   exact absurd (out_mem ho).2 (hno t (out_mem ho).1)
end
end K31
set_option maxRecDepth 100000
namespace K31
open PySem L2 L2.Wy
open PyProof.Rows (boot_list boot_int boot_bool boot_tuple boot_str boot_dict boot_all)
theorem wlk_end {ts:List Tie} {x y z:Str} {ws:List Tie} (A:Wlk ts x ws y) (B:Wlk ts x ws z):y=z:=by
 cases A with
 | nil=>
  generalize hw:([]:List Tie)=ws at B
  cases B with
  | nil=>rfl
  | snoc B ht=>exact absurd hw (by simp)
 | @snoc ws t A ht=>
  generalize hw:ws ++ [t]=vs at B
  cases B with
  | nil=>exact absurd hw (by simp)
  | @snoc ws' t' B ht'=>
   obtain ⟨_,e⟩:=List.append_inj' hw rfl
   injection e with e
   rw [e]
def StepAt (H:Hp):V→Option (Int × Str)→Prop
 | v,none=>v=.non
 | v,some s=>∃ a,v=.ref a∧H a=some (.tup [.int s.1,.str s.2])
theorem StepAt.mono {H H':Hp} {v:V} {s:Option (Int × Str)} (e:Same H H') (h:StepAt H v s):StepAt H' v s:=by
 cases s with
 | none=>exact h
 | some s=>obtain ⟨a,h1,h2⟩:=h; exact ⟨a,h1,e _ _ h2⟩
def CmV (H:Hp) (kv:Key × V) (q:Str × Option (Int × Str)):Prop:=kv.1=Sum.inr q.1∧StepAt H kv.2 q.2
def CameAt (H:Hp) (d:Addr) (c:Cm Str):Prop:=∃ kvs,H d=some (.dK kvs)∧Paired (CmV H) kvs c
theorem CameAt.mono {H H':Hp} {d:Addr} {c:Cm Str} (e:Same H H') (h:CameAt H d c):CameAt H' d c:=by
 obtain ⟨kvs,h1,h2⟩:=h
 exact ⟨kvs,e _ _ h1,Paired.imp' (fun kv q z=>⟨z.1,z.2.mono e⟩) h2⟩
theorem came_val {H:Hp} {kvs:List (Key × V)} {c:Cm Str} (h:Paired (CmV H) kvs c) (y:Str):(valV kvs (Sum.inr y)).isSome=decide (y ∈ keys c):=by
 induction h with
 | nil=>simp [valV,keys]
 | @cons kv q kvs c hq h ih=>
  by_cases e:q.1=y
  ·rw [valV_pos (by rw [hq.1,e])]
   simp [keys,e]
  ·rw [valV_neg (fun z=>e (Sum.inr.inj (hq.1.symm.trans z))),ih]
   have ek:keys (q :: c)=q.1 :: keys c:=rfl
   rw [ek]
   simp [Ne.symm e]
theorem came_get {H:Hp} {kvs:List (Key × V)} {c:Cm Str} (h:Paired (CmV H) kvs c) {y:Str} {s:Option (Int × Str)} (hf:c.find? (fun q=>decide (q.1=y))=some (y,s)):∃ v,valV kvs (Sum.inr y)=some v∧StepAt H v s:=by
 induction h with
 | nil=>cases hf
 | @cons kv q kvs c hq h ih=>
  by_cases e:q.1=y
  ·rw [List.find?_cons,decide_eq_true e] at hf
   cases hf
   exact ⟨_,valV_pos hq.1,hq.2⟩
  ·rw [List.find?_cons,decide_eq_false e] at hf
   rw [valV_neg (fun z=>e (Sum.inr.inj (hq.1.symm.trans z)))]
   exact ih hf
section
variable {P : Program} {w : World} {K : PySem.W.Frag} {mg : Str → Option Value} {base : Heap}
def sp_ties_between:Sp:=fun vs H Q _=>∃ (l d:Addr) (ts:List Tie) (c:Cm Str),vs=[.ref l,.ref d]∧TiesAt H l ts∧ts.length ≤ 1000∧CameAt H d c∧∀ lo H',Same H H'→H lo=none→H' lo=some (.lst ((cutK ts c).map V.int))→Q (.ref lo) H'
abbrev s_ties_between:Stmt:=top 17
theorem sc_ties_between:FnScope ["ties","came"] ["ties","came"] (defScope s_ties_between):=⟨rfl,rfl,rfl,by decide +kernel,rfl,by decide +kernel,by decide +kernel⟩
theorem ok_ties_between {f:Addr} {fd:FuncData} (F:Fun K "ties_between" "ties_between" s_ties_between f fd):FnOk P w K mg base CX0 1 f fd ["ties","came"] sp_ties_between:=by
 refine F.ok sc_ties_between (fun vs H Q E h=>?_) (fun cdv A outer s H vs Q E hr h=>?_)
 ·obtain ⟨l,d,ts,c,rfl,_⟩:=h
  rfl
 ·obtain ⟨l,d,ts,c,rfl,⟨xs,hx,hp⟩,hz,⟨kvs,hd,hc⟩,q⟩:=h
  have ND:=sc_ties_between.nd
  have hxl:=Paired.length hp
  refine ⟨_,(pss_one (ps_ret (pe_comp rfl (compScope_of (nT:=4) (js:=[1]) (N':=["number","one","other","delay","came"]) rfl rfl (by kernel_rfl)) (pilK K (pv 0))
  (fun _ _ _ _ _=>(pgtK K (n:=4) rfl (pgs_cons (pg_name (i:=0) (show List.Nodup (["number","one","other","delay","came"]:List Str) by decide +kernel) rfl (by first | exact Or.inl rfl | exact Or.inr rfl)) (pgs_cons (pg_name (i:=1) (show List.Nodup (["number","one","other","delay","came"]:List Str) by decide +kernel) rfl (by first | exact Or.inl rfl | exact Or.inr rfl)) (pgs_cons (pg_name (i:=2) (show List.Nodup (["number","one","other","delay","came"]:List Str) by decide +kernel) rfl (by first | exact Or.inl rfl | exact Or.inr rfl)) (pgs_cons (pg_name (i:=3) (show List.Nodup (["number","one","other","delay","came"]:List Str) by decide +kernel) rfl (by first | exact Or.inl rfl | exact Or.inr rfl)) pgs_nil))))))
  (fun _ _ _ _ _=>(pif_one (PW.pt (pw_and (pt_cmp (pc_din (hu_of hr) (pv 1) (pv 4))) (pw_and1 (pt_cmp (pc_dnotin (hu_of hr) (pv 2) (pv 4))))))))
  (fun _ _ _ _ _=>(pv 0))))),?_⟩
  refine ⟨_,rfl,l,rfl,⟨_,SqL.of hx⟩,compG4_list (K:=K) (fun i=>cutB (fun z=>decide (z ∈ keys c)) (ts.getD i (0,"","",0))) (fun i=>.int (ts.getD i (0,"","",0)).1) hx (by omega) (fun i x ex=>?_) (fun i p x1 x2 x3 x4 H2 ex hp' e2=>?_) (fun lo H2 h2 e2 hlo=>?_)⟩
  ·obtain ⟨t,et,p,rfl,hpt⟩:=Paired.at hp ex
   exact ⟨p,_,_,_,_,rfl,hpt⟩
  ·obtain ⟨t,et,p',ep,hpt⟩:=Paired.at hp ex
   cases ep
   rw [hp'] at hpt
   cases hpt
   have eg:ts.getD i (0,"","",0)=t:=by rw [List.getD_eq_getElem?_getD,et]; rfl
   rw [eg]
   have hd2:=e2 _ _ hd
   refine ⟨_,rfl,_,rfl,d,_,rfl,DGet.k (k:=Sum.inr t.2.1) hd2,_,rfl,?_⟩
   rw [came_val hc]
   have cb:cutB (fun z=>decide (z ∈ keys c)) t=(decide (t.2.1 ∈ keys c) && !decide (t.2.2.1 ∈ keys c)):=rfl
   rw [cb]
   cases h1:decide (t.2.1 ∈ keys c) with
   | false=>exact iteF (iteF ⟨rfl,Same.refl _⟩)
   | true=>
    refine iteT ⟨_,rfl,_,rfl,d,_,rfl,DGet.k (k:=Sum.inr t.2.2.1) hd2,_,rfl,?_⟩
    rw [came_val hc]
    cases h2:decide (t.2.2.1 ∈ keys c) with
    | true=>exact iteF ⟨rfl,Same.refl _⟩
    | false=>exact iteT ⟨_,rfl,rfl,rfl,Same.refl _⟩
  ·refine q lo H2 e2 h2 ?_
   rw [hlo,hxl,range_filter_map ts (cutB fun z=>decide (z ∈ keys c)) (fun t=>V.int t.1) _ _ fun i t et=>by rw [List.getD_eq_getElem?_getD,et]; exact ⟨rfl,rfl⟩]
   unfold cutK nums cutOf
   rw [List.map_map]
   rfl
def sp_one_way:Sp:=fun vs H Q _=>∃ (l:Addr) (L:List Tie) (h g:Str) (N:Nat),vs=[.ref l,.str h,.str g]∧TiesAt H l L∧Wlk L h (oneF L g N h) g∧(oneF L g N h).length ≤ 1000∧∀ lw H',Same H H'→H lw=none→H' lw=some (.lst ((nums (oneF L g N h)).map V.int))→Q (.ref lw) H'
abbrev s_one_way:Stmt:=top 19
theorem sc_one_way:FnScope ["ties","home","listener","way","name","tie"] ["ties","home","listener"] (defScope s_one_way):=⟨rfl,rfl,rfl,by decide +kernel,rfl,by decide +kernel,by decide +kernel⟩
theorem ok_one_way {f:Addr} {fd:FuncData} (F:Fun K "one_way" "one_way" s_one_way f fd) (D_tie_out_of:Df P w K mg base 1 "tie_out_of" ["ties","name"] sp_tie_out_of):FnOk P w K mg base CX0 2 f fd ["ties","home","listener"] sp_one_way:=by
 refine F.ok sc_one_way (fun vs H Q E h=>?_) (fun cdv A outer s H vs Q E hr h=>?_)
 ·obtain ⟨l,L,h,g,N,rfl,_⟩:=h
  rfl
 ·obtain ⟨l,L,h,g,N,rfl,hL,W,hz,q⟩:=h
  have ND:=sc_one_way.nd
  refine ⟨_,(pss_cons (ps_set (i:=3) ND rfl (by first | exact Or.inl rfl | exact Or.inr rfl) (pe_lstS pa_nil))
 (pss_cons (ps_set (i:=4) ND rfl (by first | exact Or.inl rfl | exact Or.inr rfl) (pv 1))
 (pss_cons (ps_while PassesOwn.never (pt_cmpR op_ne (pv 4) (pv 2) (nomark _))
  (pss_cons (ps_set (i:=5) ND rfl (by first | exact Or.inl rfl | exact Or.inr rfl) (pe_callD D_tie_out_of (hr.mono (by decide)) rfl (pa_cons (pv 0) (pa_cons (pv 4) pa_nil))))
 (pss_cons (ps_expr (bmK K PySem.F.plainAttrs_list PySem.F.slot_list_append PySem.F.type_list_append mt_append (pv 3) (pa_cons (pe_ix (ixtK K) (pv 5) pe_int (fun _ _=>rfl)) pa_nil)))
 (pss_one (ps_set (i:=4) ND rfl (by first | exact Or.inl rfl | exact Or.inr rfl) (pe_ix (ixtK K) (pv 5) pe_int (fun _ _=>rfl)))))))
 (pss_one (ps_ret (pv 3)))))),?_⟩
  refine ⟨(by show 0 ≤ sizeLine; decide),fun lw H1 e1 h1 hlw=>?_⟩
  refine ⟨_,rfl,?_⟩
  refine ⟨fun n σ H2=>∃ x ws o,σ=[some (.ref l),some (.str h),some (.str g),some (.ref lw),some (.str x),o]∧Same H H2∧H2 lw=some (.lst ((nums ws).map V.int))∧Wlk L h ws x∧oneF L g N h=ws ++ oneF L g n x,
   ⟨N,h,[],none,rfl,e1,hlw,.nil h,rfl⟩,?_⟩
  rintro n σ H2 ⟨x,ws,o,rfl,e2,hw2,Wx,eN⟩
  refine ⟨_,rfl,_,rfl,rfl,_,rfl,ite2 (fun hne=>?_) (fun hne=>?_)⟩
  ·have hxg:¬ x=g:=fun z=>by rw [z,decide_eq_true rfl] at hne; cases hne
   obtain ⟨m,t,rfl,ht⟩:∃ m t,n=m + 1∧outOf L x=some t:=by
    cases n with
    | zero=>
     have e0:oneF L g 0 x=[]:=rfl
     rw [e0,List.append_nil] at eN
     rw [eN] at W
     exact absurd (wlk_end Wx W) hxg
    | succ m=>
     cases ho:outOf L x with
     | some t=>exact ⟨m,t,rfl,rfl⟩
     | none=>
      have e0:=oneF_none (n:=m) hxg ho
      rw [e0,List.append_nil] at eN
      rw [eN] at W
      exact absurd (wlk_end Wx W) hxg
   have e0:=oneF_next (n:=m) hxg ht
   obtain ⟨ht1,ht2⟩:=out_mem ht
   have hwl:ws.length < 1000:=by
    rw [eN,e0,List.length_append,List.length_cons] at hz
    omega
   refine ⟨fun σ' H'=>∃ m',m' < m + 1∧∃ x ws o,σ'=[some (.ref l),some (.str h),some (.str g),some (.ref lw),some (.str x),o]∧Same H H'∧H' lw=some (.lst ((nums ws).map V.int))∧Wlk L h ws x∧oneF L g N h=ws ++ oneF L g m' x,fun σ' H' h=>h,?_⟩
   refine ⟨_,rfl,_,rfl,l,L,x,t,rfl,hL.mono e2,ht,fun v hv=>?_⟩
   obtain ⟨p,rfl,hp⟩:=hv
   refine ⟨_,rfl,.inl ⟨rfl,_,SqL.of hw2⟩,_,rfl,p,_,0,_,rfl,rfl,SqT.of hp,rfl,lw,_,_,rfl,rfl,hw2,?_,?_⟩
   ·unfold nums
    rw [List.length_map,List.length_map]
    show ws.length < 2 ^ 24
    omega
   have npl:p ≠ lw:=fun z=>by rw [z,hw2] at hp; cases hp
   have hp':upd H2 lw (.lst ((nums ws).map V.int ++ [V.int t.1])) p=some (.tup [.int t.1,.str t.2.1,.str t.2.2.1,.int t.2.2.2]):=by rw [upd_ne npl]; exact hp
   refine ⟨_,rfl,p,_,2,_,rfl,rfl,SqT.of hp',rfl,m,by omega,t.2.2.1,ws ++ [t],_,rfl,same_new e2 h1,?_,?_,?_⟩
   ·rw [upd_same]
    unfold nums
    rw [List.map_append,List.map_append]
    rfl
   ·exact .snoc (by rw [ht2]; exact Wx) ht1
   ·rw [eN,e0]
    simp
  ·have hxg:x=g:=by
    cases hd:decide (V.str x=V.str g) with
    | true=>have:=of_decide_eq_true hd; injection this
    | false=>rw [hd] at hne; exact absurd rfl hne
   have e0:=oneF_goal (L:=L) (n:=n) hxg
   rw [e0,List.append_nil] at eN
   refine ⟨_,rfl,q lw H2 e2 h1 ?_⟩
   rw [eN]
   exact hw2
end
end K31
set_option maxRecDepth 100000
namespace K31
open PySem L2 L2.Wy
open PyProof.Rows (boot_list boot_int boot_bool boot_tuple boot_str boot_dict boot_all)
structure TxtD (mg : Str → Option Value) : Prop where
  n_dict : mg "dict" = none
  n_len : mg "len" = none
  n_range : mg "range" = none
theorem used_none {U:List Int} {k:Int} (h:¬ k ∈ U):valV (U.map fun k=>((Sum.inl k:Key),V.bl true)) (Sum.inl k)=none:=by
 cases hs:valV (U.map fun k=>((Sum.inl k:Key),V.bl true)) (Sum.inl k) with
 | none=>rfl
 | some v=>
  have:=used_val U k
  rw [hs,decide_eq_false h] at this
  cases this
theorem used_some {U:List Int} {k:Int} (h:k ∈ U):∃ v,valV (U.map fun k=>((Sum.inl k:Key),V.bl true)) (Sum.inl k)=some v:=by
 cases hs:valV (U.map fun k=>((Sum.inl k:Key),V.bl true)) (Sum.inl k) with
 | some v=>exact ⟨v,rfl⟩
 | none=>
  have:=used_val U k
  rw [hs,decide_eq_true h] at this
  cases this
theorem used_drop (U:List Int) (k:Int):dropK (U.map fun k=>((Sum.inl k:Key),V.bl true)) (Sum.inl k)=(U.filter fun j=>!decide (j=k)).map fun k=>((Sum.inl k:Key),V.bl true):=by
 unfold dropK
 rw [List.filter_map]
 congr 1
 refine List.filter_congr fun j _=>?_
 by_cases h:j=k
 ·simp [h]
 ·simp [h]
theorem used_merge {U:List Int} (h:U.Nodup):mergeK [] (U.map fun k=>((Sum.inl k:Key),V.bl true))=U.map fun k=>((Sum.inl k:Key),V.bl true):=by
 have:∀ (a b:List Int),(a ++ b).Nodup→mergeK (a.map fun k=>((Sum.inl k:Key),V.bl true)) (b.map fun k=>((Sum.inl k:Key),V.bl true))=(a ++ b).map fun k=>((Sum.inl k:Key),V.bl true):=by
  intro a b
  induction b generalizing a with
  | nil=>intro _; rw [List.append_nil]; rfl
  | cons k b ih=>
   intro h
   have hk:¬ k ∈ a:=fun z=>(List.nodup_append.mp h).2.2 k z k (List.mem_cons_self ..) rfl
   show mergeK (putK (a.map fun k=>((Sum.inl k:Key),V.bl true)) (Sum.inl k) (.bl true)) (b.map fun k=>((Sum.inl k:Key),V.bl true))=_
   rw [putK_new _ (used_none hk)]
   have:=ih (a ++ [k]) (by simpa using h)
   rw [List.map_append] at this
   simpa using this
 simpa using this [] U (by simpa using h)
theorem tog_len (U:List Int) (k:Int):(tog U k).length ≤ U.length + 1:=by
 unfold tog
 split
 ·exact Nat.le_succ_of_le (List.length_filter_le _ _)
 ·rw [List.length_append]; exact Nat.le_refl _
section
variable {P : Program} {w : World} {K : PySem.W.Frag} {mg : Str → Option Value} {base : Heap}
def sp_used_with:Sp:=fun vs H Q _=>∃ (u d:Addr) (U:List Int) (c:Cm Str) (ts:List Tie) (h g:Str) (N:Nat),vs=[.ref u,.ref d,.str g]∧H u=some (usedD U)∧CameAt H d c∧Came ts (inU U) h c∧Nums ts∧g ∈ keys c∧U.Nodup∧c.length ≤ N∧c.length ≤ 1000∧U.length ≤ 10000000∧
 ∀ t H',Same H H'→H t=none→H' t=some (usedD (useF c N U (stepOf c g)))→Q (.ref t) H'
abbrev s_used_with:Stmt:=top 16
theorem sc_used_with:FnScope ["used","came","listener","told","step"] ["used","came","listener"] (defScope s_used_with):=⟨rfl,rfl,rfl,by decide +kernel,rfl,by decide +kernel,by decide +kernel⟩
theorem ok_used_with {f:Addr} {fd:FuncData} (F:Fun K "used_with" "used_with" s_used_with f fd) (T:TxtD mg):FnOk P w K mg base CX0 1 f fd ["used","came","listener"] sp_used_with:=by
 refine F.ok sc_used_with (fun vs H Q E h=>?_) (fun cdv A outer s H vs Q E hr h=>?_)
 ·obtain ⟨u,d,U,c,ts,h,g,N,rfl,_⟩:=h
  rfl
 ·obtain ⟨u,d,U,c,ts,h,g,N,rfl,hu,⟨kvs,hd,hc⟩,C,nd,hg,hU,hN,hc1,hU1,q⟩:=h
  have ND:=sc_used_with.nd
  refine ⟨_,(pss_cons (ps_set (i:=3) ND rfl (by first | exact Or.inl rfl | exact Or.inr rfl) (pe_callTy call_dict_dK rfl T.n_dict boot_dict (pa_cons (pv 0) pa_nil)))
 (pss_cons (ps_set (i:=4) ND rfl (by first | exact Or.inl rfl | exact Or.inr rfl) (pe_dget (hu_of hr) (pv 1) (pv 2) (fun _ _=>rfl)))
 (pss_cons (ps_while PassesOwn.never (pt_cmpR op_notN (pv 4) pe_non (nomark _))
  (pss_cons (ps_ifJ (pt_cmp (pc_din (hu_of hr) (pe_ix (ixtK K) (pv 4) pe_int (fun _ _=>rfl)) (pv 3)))
  (pss_one (ps_expr (pe_dpop1 (pv 3) (pe_ix (ixtK K) (pv 4) pe_int (fun _ _=>rfl)) ⟨rfl,rfl,rfl,rfl⟩)))
  (pss_one (ps_dput (hu_of hr) (pv 3) (pe_ix (ixtK K) (pv 4) pe_int (fun _ _=>rfl)) pe_bl rfl)))
 (pss_one (ps_set (i:=4) ND rfl (by first | exact Or.inl rfl | exact Or.inr rfl) (pe_dget (hu_of hr) (pv 1) (pe_ix (ixtK K) (pv 4) pe_int (fun _ _=>rfl)) (fun _ _=>rfl))))))
 (pss_one (ps_ret (pv 3)))))),?_⟩
  refine ⟨_,rfl,u,_,rfl,hu,fun t H1 e1 h1 ht=>?_⟩
  rw [used_merge hU] at ht
  obtain ⟨pre,s0,post,ec⟩:=mem_split hg
  have B0:=Back.start (ts:=ts) (U:=inU U) ec
  obtain ⟨b1,b2,b3⟩:=B0.look C
  obtain ⟨v0,hv0,hs0⟩:=came_get hc b2
  refine ⟨_,rfl,_,rfl,d,v0,rfl,(by rw [← hv0]; exact DGet.k (k:=Sum.inr g) (e1 _ _ hd)),?_⟩
  refine ⟨fun n σ H2=>∃ Vs y s m v,σ=[some (.ref u),some (.ref d),some (.str g),some (.ref t),some v]∧Same H H2∧H2 t=some (usedD Vs)∧StepAt H v s∧Back ts (inU U) g c (inU Vs) y s m∧m < n∧Vs.length + m ≤ U.length + c.length∧useF c N U (stepOf c g)=useF c n Vs s,
   ⟨N,U,g,s0,_,v0,rfl,e1,ht,hs0,B0,by omega,by omega,by rw [b1]⟩,?_⟩
  rintro n σ H2 ⟨Vs,y,s,m,v,rfl,e2,ht2,hs,B,hm,hl,eN⟩
  obtain ⟨n,rfl⟩:∃ n',n=n' + 1:=⟨n - 1,by omega⟩
  have hd2:=e2 _ _ hd
  cases s with
  | none=>
   have hs:v=.non:=hs
   subst hs
   refine ⟨_,rfl,rfl,_,rfl,iteF ⟨_,rfl,q t H2 e2 h1 ?_⟩⟩
   rw [eN]
   exact ht2
  | some kx=>
   obtain ⟨k,x⟩:=kx
   obtain ⟨a,rfl,ha⟩:=hs
   have ha2:=e2 _ _ ha
   obtain ⟨s',m',hlt,B'⟩:=B.step nd C
   rw [← tog_in] at B'
   obtain ⟨c1,c2,c3⟩:=B'.look C
   obtain ⟨v',hv',hs'⟩:=came_get hc c2
   have hgo:=tog_len Vs k
   refine ⟨_,rfl,rfl,_,rfl,iteT ?_⟩
   refine ⟨fun σ' H'=>∃ n',n' < n + 1∧∃ Vs y s m v,σ'=[some (.ref u),some (.ref d),some (.str g),some (.ref t),some v]∧Same H H'∧H' t=some (usedD Vs)∧StepAt H v s∧Back ts (inU U) g c (inU Vs) y s m∧m < n'∧Vs.length + m ≤ U.length + c.length∧useF c N U (stepOf c g)=useF c n' Vs s,fun σ' H' h=>h,?_⟩
   refine ⟨fun σ' H'=>σ'=[some (.ref u),some (.ref d),some (.str g),some (.ref t),some (.ref a)]∧Same H H'∧H' t=some (usedD (tog Vs k)),?_,?_⟩
   ·rintro σ' H3 ⟨rfl,e3,ht3⟩
    refine ⟨_,rfl,_,rfl,a,_,1,_,rfl,rfl,SqT.of (e3 _ _ ha),rfl,d,v',rfl,(by rw [← hv']; exact DGet.k (k:=Sum.inr x) (e3 _ _ hd)),?_⟩
    refine ⟨n,by omega,tog Vs k,x,s',m',v',rfl,e3,ht3,hs',B',by omega,by omega,?_⟩
    rw [eN,useF_some,c1]
   ·refine ⟨_,rfl,a,_,0,_,rfl,rfl,SqT.of ha2,rfl,_,rfl,t,_,rfl,DGet.k (k:=Sum.inl k) ht2,_,rfl,?_⟩
    rw [used_val]
    by_cases hk:k ∈ Vs
    ·rw [decide_eq_true hk]
     obtain ⟨w0,hw0⟩:=used_some hk
     refine iteT ⟨_,rfl,t,rfl,.inl ⟨_,.inl ht2⟩,_,rfl,a,_,0,_,rfl,rfl,SqT.of ha2,rfl,_,Sum.inl k,w0,ht2,rfl,hw0,rfl,same_new e2 h1,?_⟩
     rw [upd_same,used_drop]
     unfold usedD tog
     rw [if_pos hk]
    ·rw [decide_eq_false hk]
     have hlen:(Vs.map fun k=>((Sum.inl k:Key),V.bl true)).length < sizeLine:=by
      rw [List.length_map]
      show Vs.length < 2 ^ 24
      omega
     refine iteF ⟨_,rfl,_,rfl,a,_,0,_,rfl,rfl,SqT.of ha2,rfl,t,_,rfl,DPut.k (k:=Sum.inl k) ht2 hlen,rfl,same_new e2 h1,?_⟩
     rw [upd_same,putK_new _ (used_none hk)]
     unfold usedD tog
     rw [if_neg hk,List.map_append]
     rfl
end
end K31
set_option maxRecDepth 100000
namespace K31
open PySem L2 L2.Wy
open PyProof.Rows (boot_list boot_int boot_bool boot_tuple boot_str boot_dict boot_all)
def TouchAt (H:Hp) (d:Addr) (nm:List Str) (ts:List Tie):Prop:=∃ kvs,H d=some (.dK kvs)∧∀ x ∈ nm,∃ l,valV kvs (Sum.inr x)=some (.ref l)∧TiesAt H l (touch ts x)
theorem TouchAt.mono {H H':Hp} {d:Addr} {nm:List Str} {ts:List Tie} (e:Same H H') (h:TouchAt H d nm ts):TouchAt H' d nm ts:=by
 obtain ⟨kvs,h1,h2⟩:=h
 exact ⟨kvs,e _ _ h1,fun x hx=>by obtain ⟨l,a,b⟩:=h2 x hx; exact ⟨l,a,b.mono e⟩⟩
theorem cm_upd {H:Hp} {a:Addr} {o:HO} {kvs:List (Key × V)} {c:Cm Str} (ha:∀ vs,H a ≠ some (.tup vs)) (h:Paired (CmV H) kvs c):Paired (CmV (upd H a o)) kvs c:=by
 refine Paired.imp' (fun kv q z=>⟨z.1,?_⟩) h
 cases hq:q.2 with
 | none=>have:=z.2; rw [hq] at this; exact this
 | some s=>
  have:=z.2
  rw [hq] at this
  obtain ⟨b,h1,h2⟩:=this
  exact ⟨b,h1,by rw [upd_ne (fun e=>ha _ (by rw [← e]; exact h2))]; exact h2⟩
theorem look_cons (U:Int→Bool) (x:Str) (t:Tie) (r:List Tie) (s:Cm Str × List Str):look U x (t :: r) s=match stp t x U with
  | some z=>if z ∈ keys s.1 then look U x r s else look U x r (s.1 ++ [(z,some (t.1,x))],s.2 ++ [z])
  | none=>look U x r s:=by
 conv=>lhs; unfold look
 cases stp t x U <;> rfl
theorem bfs_cons (ts:List Tie) (U:Int→Bool) (n:Nat) (c:Cm Str) (x:Str) (w:List Str):bfs ts U (n + 1) (c,x :: w)=bfs ts U n (look U x (touch ts x) (c,w)):=rfl
theorem bfs_nil (ts:List Tie) (U:Int→Bool) (n:Nat) (c:Cm Str):bfs ts U n (c,[])=c:=by
 cases n <;> rfl
section
variable {P : Program} {w : World} {K : PySem.W.Frag} {mg : Str → Option Value} {base : Heap}
def sp_reached_from:Sp:=fun vs H Q _=>∃ (h:Option Str) (d u:Addr) (U:List Int) (nm:List Str) (ts:List Tie) (N:Nat),vs=[oS h,.ref d,.ref u]∧TouchAt H d nm ts∧H u=some (usedD U)∧Ends ts nm∧(∀ x,h=some x→x ∈ nm)∧nm.length ≤ N∧nm.length ≤ 1000∧ts.length ≤ 1000∧
 ∀ cd H',Same H H'→H cd=none→CameAt H' cd (reach ts (inU U) N h)→Q (.ref cd) H'
abbrev s_reached_from:Stmt:=top 15
theorem sc_reached_from:FnScope ["home","touching","used","came","waiting","name","tie","nearby"] ["home","touching","used"] (defScope s_reached_from):=⟨rfl,rfl,rfl,by decide +kernel,rfl,by decide +kernel,by decide +kernel⟩
theorem ok_reached_from {f:Addr} {fd:FuncData} (F:Fun K "reached_from" "reached_from" s_reached_from f fd) (T:TxtD mg) (D_step_over:Df P w K mg base 1 "step_over" ["tie","name","used"] sp_step_over):FnOk P w K mg base CX0 2 f fd ["home","touching","used"] sp_reached_from:=by
 refine F.ok sc_reached_from (fun vs H Q E h=>?_) (fun cdv A outer s H vs Q E hr h=>?_)
 ·obtain ⟨h,d,u,U,nm,ts,N,rfl,_⟩:=h
  rfl
 ·obtain ⟨h,d,u,U,nm,ts,N,rfl,hd,hu,E',hh,hN,hnm,hts,q⟩:=h
  have ND:=sc_reached_from.nd
  refine ⟨_,(pss_cons (ps_if (pt_cmpR op_isN (pv 0) pe_non (nomark _))
  (pss_one (ps_ret pe_dnewK))
  pss_nil)
 (pss_cons (ps_set (i:=3) ND rfl (by first | exact Or.inl rfl | exact Or.inr rfl) (pe_disp (pps_cons (pv 0) pe_non pps_nil) rfl rfl (fun z=>nomatch z) (by decide)))
 (pss_cons (ps_set (i:=4) ND rfl (by first | exact Or.inl rfl | exact Or.inr rfl) (pe_lstS (pa_cons (pv 0) pa_nil)))
 (pss_cons (ps_while PassesOwn.never (pt_cmpR op_gt (pe_callB (lenK K) rfl T.n_len boot_len (pa_cons (pv 4) pa_nil)) pe_int (nomark _))
  (pss_cons (ps_set (i:=5) ND rfl (by first | exact Or.inl rfl | exact Or.inr rfl) (bmK K PySem.F.plainAttrs_list PySem.F.slot_list_pop PySem.F.type_list_pop mt_popAt (pv 4) (pa_cons pe_int pa_nil)))
 (pss_one (ps_for PassesOwn.never rfl (pilK K (pe_dget (hu_of hr) (pv 1) (pv 5) (fun _ _=>rfl))) (pg_name (i:=6) ND rfl (by first | exact Or.inl rfl | exact Or.inr rfl))
  (pss_cons (ps_set (i:=7) ND rfl (by first | exact Or.inl rfl | exact Or.inr rfl) (pe_callD D_step_over (hr.mono (by decide)) rfl (pa_cons (pv 6) (pa_cons (pv 5) (pa_cons (pv 2) pa_nil)))))
 (pss_one (ps_ifJ (PW.pt (pw_and (pt_cmpR op_notN (pv 7) pe_non (nomark _)) (pw_and1 (pt_cmp (pc_dnotin (hu_of hr) (pv 7) (pv 3))))))
  (pss_cons (ps_dput (hu_of hr) (pv 3) (pv 7) (pe_tupS (pa_cons (pe_ix (ixtK K) (pv 6) pe_int (fun _ _=>rfl)) (pa_cons (pv 5) pa_nil))) rfl)
 (pss_one (ps_expr (bmK K PySem.F.plainAttrs_list PySem.F.slot_list_append PySem.F.type_list_append mt_append (pv 4) (pa_cons (pv 7) pa_nil)))))
  pss_nil)))))))
 (pss_one (ps_ret (pv 3))))))),?_⟩
  cases h with
  | none=>
   refine ⟨_,rfl,rfl,_,rfl,iteT ?_⟩
   intro cd hcd
   exact q cd _ (same_upd (Same.refl _) hcd) hcd ⟨[],upd_same,.nil⟩
  | some h=>
   have hh:=hh h rfl
   refine ⟨_,rfl,rfl,_,rfl,iteF ?_⟩
   intro cd hcd
   refine ⟨_,rfl,upd_same,[(Sum.inr h,.non)],rfl,(by show 1 ≤ 15; decide),?_⟩
   have e0:upd (upd H cd (.dK [])) cd (.dK (mergeK [] [(Sum.inr h,.non)]))=upd H cd (.dK [(Sum.inr h,.non)]):=by rw [upd_upd]; rfl
   rw [e0]
   have e1:Same H (upd H cd (.dK [(Sum.inr h,.non)])):=same_upd (Same.refl _) hcd
   have hc1:CameAt (upd H cd (.dK [(Sum.inr h,.non)])) cd [(h,none)]:=⟨_,upd_same,.cons ⟨rfl,rfl⟩ .nil⟩
   generalize upd H cd (.dK [(Sum.inr h,.non)])=H1 at e1 hc1
   refine ⟨_,rfl,(by show 1 ≤ sizeLine; decide),fun wl H2 e2 hwl2 hwl=>?_⟩
   have hwl0:H wl=none:=e1.free hwl2
   have nwc:wl ≠ cd:=fun z=>by
    obtain ⟨kvs,hk,_⟩:=hc1
    rw [z,hk] at hwl2
    cases hwl2
   refine ⟨fun n σ H3=>∃ c dn wt o5 o6 o7,σ=[some (.str h),some (.ref d),some (.ref u),some (.ref cd),some (.ref wl),o5,o6,o7]∧Same H H3∧CameAt H3 cd c∧H3 wl=some (.lst (wt.map V.str))∧Bf ts (inU U) h c dn wt∧nm.length ≤ n + dn.length∧bfs ts (inU U) n (c,wt)=reach ts (inU U) N (some h),
    ⟨N,[(h,none)],[],[h],none,none,none,rfl,e1.trans e2,hc1.mono e2,hwl,Bf.start ..,by simpa using hN,rfl⟩,?_⟩
   rintro n σ H3 ⟨c,dn,wt,o5,o6,o7,rfl,e3,hc3,hw3,B,hn,eN⟩
   have hlen:=B.len E' hh
   refine ⟨_,rfl,wl,_,rfl,.inl (SqL.of hw3),_,_,rfl,rfl,_,rfl,ite2 (fun hc=>?_) (fun hc=>?_)⟩
   ·have hc:0 < wt.length:=by have:=of_decide_eq_true hc; rw [List.length_map] at this; omega
    obtain ⟨x,wt,rfl⟩:∃ x w',wt=x :: w':=by
     cases wt with
     | nil=>exact absurd hc (by decide)
     | cons x w'=>exact ⟨x,w',rfl⟩
    rw [List.length_cons] at hlen
    obtain ⟨n,rfl⟩:∃ n',n=n' + 1:=⟨n - 1,by omega⟩
    rw [bfs_cons] at eN
    have xnm:x ∈ nm:=B.came.names E' hh x (by rw [B.ks]; simp)
    refine ⟨fun σ' H'=>∃ n',n' < n + 1∧∃ c dn wt o5 o6 o7,σ'=[some (.str h),some (.ref d),some (.ref u),some (.ref cd),some (.ref wl),o5,o6,o7]∧Same H H'∧CameAt H' cd c∧H' wl=some (.lst (wt.map V.str))∧Bf ts (inU U) h c dn wt∧nm.length ≤ n' + dn.length∧bfs ts (inU U) n' (c,wt)=reach ts (inU U) N (some h),fun σ' H' h=>h,?_⟩
    refine ⟨_,rfl,.inl ⟨rfl,_,SqL.of hw3⟩,wl,_,0,0,.str x,rfl,rfl,hw3,by decide,by decide,(by rw [List.map_cons,List.length_cons]; unfold seqIndex?; simp),rfl,?_⟩
    have e4:Same H (upd H3 wl (.lst (((x :: wt).map V.str).eraseIdx 0))):=same_new e3 hwl0
    have hw4:upd H3 wl (.lst (((x :: wt).map V.str).eraseIdx 0)) wl=some (.lst (wt.map V.str)):=upd_same
    have hc4:CameAt (upd H3 wl (.lst (((x :: wt).map V.str).eraseIdx 0))) cd c:=by
     obtain ⟨kvs,hk1,hk2⟩:=hc3
     exact ⟨kvs,by rw [upd_ne nwc.symm]; exact hk1,cm_upd (fun vs z=>by rw [hw3] at z; cases z) hk2⟩
    generalize upd H3 wl (.lst (((x :: wt).map V.str).eraseIdx 0))=H4 at e4 hw4 hc4 ⊢
    obtain ⟨kv0,hd0,hall⟩:=hd.mono e4
    obtain ⟨tl,hv,xs,hx,hp⟩:=hall x xnm
    have hxl:=Paired.length hp
    have htl:(touch ts x).length ≤ 1000:=Nat.le_trans (List.length_filter_le _ _) hts
    obtain ⟨_,_,hall0⟩:=id hd
    have hxH:H tl=some (.lst xs):=by
     obtain ⟨kv1,hd1,hall1⟩:=id hd
     have:kv1=kv0:=by
      have:=e4 _ _ hd1
      rw [hd0] at this
      injection this with this
      injection this with this
      exact this.symm
     subst this
     obtain ⟨l1,v1,xs1,hx1,hp1⟩:=hall1 x xnm
     rw [hv] at v1
     injection v1 with v1
     injection v1 with v1
     subst v1
     have:=e4 _ _ hx1
     rw [hx] at this
     injection this with this
     injection this with this
     subst this
     exact hx1
    refine ⟨_,rfl,_,rfl,d,.ref tl,rfl,(by rw [← hv]; exact DGet.k (k:=Sum.inr x) hd0),tl,rfl,⟨_,SqL.of hx⟩,?_⟩
    refine for_list (K:=K) (xs:=xs) (fun j σ H5=>∃ c' w' o6 o7,σ=[some (.str h),some (.ref d),some (.ref u),some (.ref cd),some (.ref wl),some (.str x),o6,o7]∧Same H H5∧(∀ (v:V) (t:Tie),TieAt H4 v t→TieAt H5 v t)∧CameAt H5 cd c'∧H5 wl=some (.lst (w'.map V.str))∧c'.length ≤ 1000 + j∧w'.length ≤ 1000 + j∧look (inU U) x ((touch ts x).drop j) (c',w')=look (inU U) x (touch ts x) (c,wt))
     ⟨c,wt,_,_,rfl,e4,fun v t h=>h,hc4,hw4,by omega,by omega,rfl⟩ (fun j σ H5 _ h=>by obtain ⟨_,_,_,_,_,e5,_⟩:=h; exact SqL.of (e5 _ _ hxH)) ?_ ?_
    ·rintro j v σ H5 ev ⟨c',w',o6',o7',rfl,e5,hk5,hc5,hw5,lc,lw,el⟩
     obtain ⟨t,et,htv⟩:=Paired.at hp ev
     have hj:j < 1000:=by
      have:=(List.getElem?_eq_some_iff.mp et).1
      omega
     have dr:(touch ts x).drop j=t :: (touch ts x).drop (j + 1):=by
      obtain ⟨hi,e⟩:=List.getElem?_eq_some_iff.mp et
      rw [List.drop_eq_getElem_cons hi,e]
     rw [dr,look_cons] at el
     have ht5:=hk5 v t htv
     refine ⟨_,rfl,_,rfl,_,rfl,v,t,x,u,U,rfl,ht5,e5 _ _ hu,?_⟩
     have stay:look (inU U) x ((touch ts x).drop (j + 1)) (c',w')=look (inU U) x (touch ts x) (c,wt)→∀ o,∃ c' w' o6 o7,([some (.str h),some (.ref d),some (.ref u),some (.ref cd),some (.ref wl),some (.str x),some v,o]:St)=[some (.str h),some (.ref d),some (.ref u),some (.ref cd),some (.ref wl),some (.str x),o6,o7]∧Same H H5∧(∀ (v:V) (t:Tie),TieAt H4 v t→TieAt H5 v t)∧CameAt H5 cd c'∧H5 wl=some (.lst (w'.map V.str))∧c'.length ≤ 1000 + (j + 1)∧w'.length ≤ 1000 + (j + 1)∧look (inU U) x ((touch ts x).drop (j + 1)) (c',w')=look (inU U) x (touch ts x) (c,wt):=
      fun el o=>⟨c',w',_,_,rfl,e5,hk5,hc5,hw5,by omega,by omega,el⟩
     refine ⟨_,fun _ _ h=>h,?_⟩
     cases hs:stp t x (inU U) with
     | none=>
      rw [hs] at el
      exact ⟨_,rfl,rfl,_,rfl,iteF (iteF (stay el _))⟩
     | some z=>
      rw [hs] at el
      have el:(if z ∈ keys c' then look (inU U) x ((touch ts x).drop (j + 1)) (c',w') else look (inU U) x ((touch ts x).drop (j + 1)) (c' ++ [(z,some (t.1,x))],w' ++ [z]))=look (inU U) x (touch ts x) (c,wt):=el
      refine ⟨_,rfl,rfl,_,rfl,iteT ?_⟩
      obtain ⟨kvs,hk1,hk2⟩:=id hc5
      refine ⟨_,rfl,_,rfl,cd,_,rfl,DGet.k (k:=Sum.inr z) hk1,_,rfl,?_⟩
      rw [came_val hk2]
      by_cases hz:z ∈ keys c'
      ·rw [if_pos hz] at el
       rw [decide_eq_true hz]
       exact iteF (stay el _)
      ·rw [if_neg hz] at el
       rw [decide_eq_false hz]
       obtain ⟨p,rfl,hp5⟩:=ht5
       refine iteT ⟨_,rfl,p,_,0,_,rfl,rfl,SqT.of hp5,rfl,_,rfl,(by show 2 ≤ sizeLine; decide),fun tp H6 e6 h6 htp=>?_⟩
       have hk6:=e6 _ _ hk1
       have hkl:kvs.length=c'.length:=Paired.length hk2
       have hlt:kvs.length < sizeLine:=by
        rw [hkl]
        show c'.length < 2 ^ 24
        omega
       refine ⟨_,rfl,_,rfl,cd,_,rfl,DPut.k (k:=Sum.inr z) hk6 hlt,?_⟩
       have hnone:valV kvs (Sum.inr z)=none:=by
        cases hvn:valV kvs (Sum.inr z) with
        | none=>rfl
        | some v=>have:=came_val hk2 z; rw [hvn,decide_eq_false hz] at this; cases this
       rw [putK_new _ hnone]
       have hw7:upd H6 cd (.dK (kvs ++ [(Sum.inr z,.ref tp)])) wl=some (.lst (w'.map V.str)):=by rw [upd_ne nwc]; exact e6 _ _ hw5
       refine ⟨_,rfl,.inl ⟨rfl,_,SqL.of hw7⟩,_,rfl,wl,_,_,rfl,rfl,hw7,by rw [List.length_map]; show w'.length < 2 ^ 24; omega,?_⟩
       have tpc:tp ≠ cd:=fun e=>by rw [e,hk1] at h6; cases h6
       have hk7:Paired (CmV (upd H6 cd (.dK (kvs ++ [(Sum.inr z,.ref tp)])))) (kvs ++ [(Sum.inr z,.ref tp)]) (c' ++ [(z,some (t.1,x))]):=by
        refine Paired.snoc' (cm_upd (fun vs e=>by rw [hk6] at e; cases e) (Paired.imp' (fun kv q y=>⟨y.1,y.2.mono e6⟩) hk2)) ⟨rfl,tp,rfl,?_⟩
        rw [upd_ne tpc]
        exact htp
       refine ⟨c' ++ [(z,some (t.1,x))],w' ++ [z],_,_,rfl,same_new (same_new (e5.trans e6) hcd) hwl0,fun v t hvt=>?_,⟨_,?_,cm_upd (fun vs e=>by rw [hw7] at e; cases e) hk7⟩,?_,?_,?_,el⟩
       ·obtain ⟨b,h1,h2⟩:=hk5 v t hvt
        have h3:=e6 _ _ h2
        refine ⟨b,h1,?_⟩
        rw [upd_ne (fun e=>by rw [e,e6 _ _ hw5] at h3; cases h3),upd_ne (fun e=>by rw [e,hk6] at h3; cases h3)]
        exact h3
       ·rw [upd_ne nwc.symm,upd_same]
       ·rw [upd_same,List.map_append]
        rfl
       ·rw [List.length_append,List.length_singleton]; omega
       ·rw [List.length_append,List.length_singleton]; omega
    ·rintro σ H5 ⟨c',w',o6',o7',rfl,e5,hk5,hc5,hw5,lc,lw,el⟩
     rw [hxl,List.drop_length] at el
     have el:(c',w')=look (inU U) x (touch ts x) (c,wt):=el
     have B':=B.step
     rw [← el] at B' eN
     exact ⟨n,by omega,c',dn ++ [x],w',_,_,_,rfl,e5,hc5,hw5,B',by rw [List.length_append,List.length_singleton]; omega,eN⟩
   ·have hc:wt=[]:=by
     cases wt with
     | nil=>rfl
     | cons x w'=>exact absurd (decide_eq_true (by rw [List.length_map,List.length_cons]; omega)) hc
    subst hc
    rw [bfs_nil] at eN
    refine ⟨_,rfl,q cd H3 e3 hcd ?_⟩
    rw [← eN]
    exact hc3
end
end K31
set_option maxRecDepth 100000
namespace K31
open PySem L2 L2.Wy
open PyProof.Rows (boot_list boot_int boot_bool boot_tuple boot_str boot_dict boot_all)
def WayV (H0:Hp) (lo:Addr) (H:Hp) (v:V) (ks:List Int):Prop:=∃ a,v=.ref a∧a ≠ lo∧H0 a=none∧H a=some (.lst (ks.map V.int))
def WaysAt (H0 H:Hp) (lo:Addr) (wss:List (List Int)):Prop:=∃ xs,H lo=some (.lst xs)∧Paired (WayV H0 lo H) xs wss
theorem WaysAt.mono {H0 H H':Hp} {lo:Addr} {wss:List (List Int)} (e:Same H H') (h:WaysAt H0 H lo wss):WaysAt H0 H' lo wss:=by
 obtain ⟨xs,h1,h2⟩:=h
 exact ⟨xs,e _ _ h1,Paired.imp' (fun v ks ⟨a,x,y,n,z⟩=>⟨a,x,y,n,e _ _ z⟩) h2⟩
theorem WaysAt.base {H0 H1 H:Hp} {lo:Addr} {wss:List (List Int)} (e:Same H0 H1) (h:WaysAt H1 H lo wss):WaysAt H0 H lo wss:=by
 obtain ⟨xs,h1,h2⟩:=h
 exact ⟨xs,h1,Paired.imp' (fun v ks ⟨a,x,y,n,z⟩=>⟨a,x,y,e.free n,z⟩) h2⟩
structure Parts (ts : List Tie) (h g : Str) (N : Nat) : Prop where
  nd : Nums ts
  rk : ∃ rk : Str → Nat, (∀ t ∈ ts, rk t.2.1 < rk t.2.2.1) ∧ ∀ z, rk z < N
  few : N ≤ 1000
  many : ts.length ≤ 1000
section
variable {P : Program} {w : World} {K : PySem.W.Frag} {mg : Str → Option Value} {base : Heap}
def sp_parted_ways:Sp:=fun vs H Q _=>∃ (l:Addr) (ts:List Tie) (U:Int→Bool) (h g:Str) (m N:Nat),vs=[.ref l,.str h,.str g,.int m]∧TiesAt H l (ts.filter fun t=>U t.1)∧Parts ts h g N∧Flow ts U h g m∧m ≤ 1000∧
 ∀ lo H',Same H H'→H lo=none→WaysAt H H' lo (partF h g N m (ts.filter fun t=>U t.1))→Q (.ref lo) H'
abbrev s_parted_ways:Stmt:=top 20
theorem sc_parted_ways:FnScope ["ties","home","listener","many","told","left","way"] ["ties","home","listener","many"] (defScope s_parted_ways):=⟨rfl,rfl,rfl,by decide +kernel,rfl,by decide +kernel,by decide +kernel⟩
theorem ok_parted_ways {f:Addr} {fd:FuncData} (F:Fun K "parted_ways" "parted_ways" s_parted_ways f fd) (T:TxtD mg) (D_one_way:Df P w K mg base 2 "one_way" ["ties","home","listener"] sp_one_way):FnOk P w K mg base CX0 3 f fd ["ties","home","listener","many"] sp_parted_ways:=by
 refine F.ok sc_parted_ways (fun vs H Q E h=>?_) (fun cdv A outer s H vs Q E hr h=>?_)
 ·obtain ⟨l,ts,U,h,g,m,N,rfl,_⟩:=h
  rfl
 ·obtain ⟨l,ts,U,h,g,m,N,rfl,hl,PT,F0,hm,q⟩:=h
  have ND:=sc_parted_ways.nd
  obtain ⟨rk,hr1,hr2⟩:=PT.rk
  refine ⟨_,(pss_cons (ps_set (i:=4) ND rfl (by first | exact Or.inl rfl | exact Or.inr rfl) (pe_lstS pa_nil))
 (pss_cons (ps_set (i:=5) ND rfl (by first | exact Or.inl rfl | exact Or.inr rfl) (pv 0))
 (pss_cons (ps_while PassesOwn.never (pt_cmpR op_lt (pe_callB (lenK K) rfl T.n_len boot_len (pa_cons (pv 4) pa_nil)) (pv 3) (nomark _))
  (pss_cons (ps_set (i:=6) ND rfl (by first | exact Or.inl rfl | exact Or.inr rfl) (pe_callD D_one_way (hr.mono (by decide)) rfl (pa_cons (pv 5) (pa_cons (pv 1) (pa_cons (pv 2) pa_nil)))))
 (pss_cons (ps_setComp (i:=5) ND rfl rfl rfl (compScope_of (nT:=1) (js:=[6]) (N':=["tie","way"]) rfl rfl (by kernel_rfl)) (pilK K (pv 5))
  (fun _ _ _ _ _=>(pg_name (i:=0) (show List.Nodup (["tie","way"]:List Str) by decide +kernel) rfl (by first | exact Or.inl rfl | exact Or.inr rfl)))
  (fun _ _ _ _ _=>(pif_one (pt_cmpR (notinK K) (pe_ix (ixtK K) (pv 0) pe_int (fun _ _=>rfl)) (pv 1) (by with_unfolding_all rfl))))
  (fun _ _ _ _ _=>(pv 0)))
 (pss_one (ps_expr (bmK K PySem.F.plainAttrs_list PySem.F.slot_list_append PySem.F.type_list_append mt_append (pv 4) (pa_cons (pv 6) pa_nil)))))))
 (pss_one (ps_ret (pv 4)))))),?_⟩
  refine ⟨(by show 0 ≤ sizeLine; decide),fun lo H1 e1 h1 hlo=>?_⟩
  have nl:l ≠ lo:=fun z=>by obtain ⟨xs,hx,_⟩:=hl; rw [z,h1] at hx; cases hx
  refine ⟨_,rfl,?_⟩
  refine ⟨fun n σ H2=>∃ (lr:Addr) (Ui:Int→Bool) (dn:List (List Int)) (o:Option V),σ=[some (.ref l),some (.str h),some (.str g),some (.int m),some (.ref lo),some (.ref lr),o]∧Same H H2∧lr ≠ lo∧TiesAt H2 lr (ts.filter fun t=>Ui t.1)∧WaysAt H H2 lo dn∧Flow ts Ui h g n∧dn.length + n=m∧partF h g N m (ts.filter fun t=>U t.1)=dn ++ partF h g N n (ts.filter fun t=>Ui t.1),
   ⟨m,l,U,[],none,rfl,e1,nl,hl.mono e1,⟨_,hlo,.nil⟩,F0,by simp,rfl⟩,?_⟩
  rintro n σ H2 ⟨lr,Ui,dn,o,rfl,e2,hnl,hl2,⟨xs,hx2,hp2⟩,F2,hsum,eP⟩
  have hxl:=Paired.length hp2
  refine ⟨_,rfl,lo,_,rfl,.inl (SqL.of hx2),_,rfl,_,_,rfl,rfl,_,rfl,ite2 (fun hc=>?_) (fun hc=>?_)⟩
  ·have hc:=of_decide_eq_true hc
   obtain ⟨n,rfl⟩:∃ n',n=n' + 1:=⟨n - 1,by omega⟩
   have W:=oneF_ok hr1 F2 (by omega) hr2 N h [] (.nil h) (by omega)
   rw [List.nil_append] at W
   have up:=W.up (rk:=rk) fun t ht=>hr1 t (List.mem_filter.mp ht).1
   have hgN:=hr2 g
   have few:=PT.few
   have hz:(oneF (ts.filter fun t=>Ui t.1) g N h).length ≤ 1000:=by omega
   refine ⟨fun σ' H'=>∃ n',n' < n + 1∧∃ (lr:Addr) (Ui:Int→Bool) (dn:List (List Int)) (o:Option V),σ'=[some (.ref l),some (.str h),some (.str g),some (.int m),some (.ref lo),some (.ref lr),o]∧Same H H'∧lr ≠ lo∧TiesAt H' lr (ts.filter fun t=>Ui t.1)∧WaysAt H H' lo dn∧Flow ts Ui h g n'∧dn.length + n'=m∧partF h g N m (ts.filter fun t=>U t.1)=dn ++ partF h g N n' (ts.filter fun t=>Ui t.1),fun σ' H' h=>h,?_⟩
   refine ⟨_,rfl,_,rfl,_,rfl,lr,_,h,g,N,rfl,hl2,W,hz,fun lw H3 e3 h3 hlw=>?_⟩
   have F3:=F2.without PT.nd W (nums_nodup PT.nd (fun t ht=>(List.mem_filter.mp (W.sub t ht)).1) up.2.2)
   rw [show ((n + 1:Nat):Int) - 1=(n:Int) by omega] at F3
   have eP2:partF h g N (n + 1) (ts.filter fun t=>Ui t.1)=nums (oneF (ts.filter fun t=>Ui t.1) g N h) :: partF h g N n ((ts.filter fun t=>Ui t.1).filter fun t=>!decide (t.1 ∈ nums (oneF (ts.filter fun t=>Ui t.1) g N h))):=rfl
   have ef:(ts.filter fun t=>Ui t.1).filter (fun t=>!decide (t.1 ∈ nums (oneF (ts.filter fun t=>Ui t.1) g N h)))=ts.filter fun t=>Wy.without Ui (nums (oneF (ts.filter fun t=>Ui t.1) g N h)) t.1:=by
    rw [List.filter_filter]
    refine List.filter_congr fun t _=>?_
    unfold Wy.without
    rw [Bool.and_comm]
   rw [eP2] at eP
   generalize nums (oneF (ts.filter fun t=>Ui t.1) g N h)=ks at hlw F3 eP ef
   have lwo:lw ≠ lo:=fun z=>by rw [z,hx2] at h3; cases h3
   obtain ⟨ys,hy3,hpy⟩:=hl2.mono e3
   have hyl:=Paired.length hpy
   have hyl2:(ts.filter fun t=>Ui t.1).length ≤ 1000:=Nat.le_trans (List.length_filter_le _ _) PT.many
   refine ⟨_,rfl,lr,rfl,⟨_,SqL.of hy3⟩,compG_list (K:=K) (fun i=>!decide (((ts.filter fun t=>Ui t.1).getD i (0,"","",0)).1 ∈ ks)) (fun i=>ys.getD i .non) hy3 (by omega) (fun j x H4 ex e4=>?_) (fun l4 H4 h4 e4 hl4=>?_)⟩
   ·obtain ⟨t,et,p,rfl,hpt⟩:=Paired.at hpy ex
    have eg:(ts.filter fun t=>Ui t.1).getD j (0,"","",0)=t:=by rw [List.getD_eq_getElem?_getD,et]; rfl
    have egx:ys.getD j .non=.ref p:=by rw [List.getD_eq_getElem?_getD,ex]; rfl
    rw [eg,egx]
    refine ⟨_,rfl,p,_,0,_,rfl,rfl,SqT.of (e4 _ _ hpt),rfl,_,rfl,lw,_,rfl,.inl (SqL.of (e4 _ _ hlw)),rfl,flat_ints ks,_,rfl,?_⟩
    rw [if_pos rfl,inV_ints]
    cases hd:decide (t.1 ∈ ks) with
    | true=>exact iteF ⟨rfl,Same.refl _⟩
    | false=>exact iteT ⟨_,rfl,rfl,rfl,Same.refl _⟩
   ·have hx4:=e4 _ _ (e3 _ _ hx2)
    have l4o:l4 ≠ lo:=fun z=>by rw [z,e3 _ _ hx2] at h4; cases h4
    have hk4:=Paired.imp' (fun v t ⟨a,ha,hb⟩=>(⟨a,ha,e4 _ _ hb⟩:TieAt H4 v t)) (kept_rows hpy fun t=>!decide (t.1 ∈ ks))
    rw [ef] at hk4 eP
    refine ⟨_,rfl,.inl ⟨rfl,_,SqL.of hx4⟩,_,rfl,lo,_,_,rfl,rfl,hx4,?_,?_⟩
    ·rw [hxl]
     show dn.length < 2 ^ 24
     omega
    ·refine ⟨n,by omega,l4,Wy.without Ui ks,dn ++ [ks],_,rfl,same_new (e2.trans (e3.trans e4)) h1,l4o,⟨_,by rw [upd_ne l4o]; exact hl4,?_⟩,⟨_,upd_same,?_⟩,F3,?_,?_⟩
     ·refine Paired.imp' (fun v t ⟨a,ha,hb⟩=>⟨a,ha,?_⟩) hk4
      rw [upd_ne (fun z=>by rw [z,hx4] at hb; cases hb)]
      exact hb
     ·refine Paired.snoc' (Paired.imp' (fun v ks ⟨a,ha,hb,hn,hc⟩=>⟨a,ha,hb,hn,?_⟩) hp2) ⟨lw,rfl,lwo,e2.free h3,?_⟩
      ·rw [upd_ne lwo]
       exact e4 _ _ hlw
      ·rw [upd_ne hb]
       exact e4 _ _ (e3 _ _ hc)
     ·rw [List.length_append,List.length_singleton]; omega
     ·rw [eP]; simp
  ·have hn:n=0:=by
    cases n with
    | zero=>rfl
    | succ n=>exact absurd (decide_eq_true (by omega)) hc
   subst hn
   refine ⟨_,rfl,q lo H2 e2 h1 ?_⟩
   rw [eP,show partF h g N 0 (ts.filter fun t=>Ui t.1)=[] from rfl,List.append_nil]
   exact ⟨xs,hx2,hp2⟩
end
end K31
set_option maxRecDepth 100000
namespace K31
open PySem L2 L2.Wy
open PyProof.Rows (boot_list boot_int boot_bool boot_tuple boot_str boot_dict boot_all)
def rowsK (nm:List Str) (as:List Addr):List (Key × V):=(nm.zip as).map fun p=>((Sum.inr p.1:Key),V.ref p.2)
theorem rows_val:∀ (nm:List Str) (as:List Addr),nm.Nodup→as.Nodup→nm.length=as.length→∃ LA:Str→Addr,(∀ x ∈ nm,valV (rowsK nm as) (Sum.inr x)=some (.ref (LA x))∧LA x ∈ as)∧∀ x ∈ nm,∀ y ∈ nm,LA x=LA y→x=y
 | [],_,_,_,_=>⟨fun _=>0,(fun x hx=>nomatch hx),fun x hx=>nomatch hx⟩
 | x :: nm,a :: as,h1,h2,hl=>by
  obtain ⟨n1,n2⟩:=List.nodup_cons.mp h1
  obtain ⟨a1,a2⟩:=List.nodup_cons.mp h2
  obtain ⟨LA,l1,l2⟩:=rows_val nm as n2 a2 (by simpa using hl)
  have ne:∀ y ∈ nm,y ≠ x:=fun y hy e=>n1 (e ▸ hy)
  refine ⟨fun y=>if y=x then a else LA y,fun y hy=>?_,fun y hy z hz e=>?_⟩
  ·rcases List.mem_cons.mp hy with rfl | hy
   ·simp only [if_pos rfl]
    exact ⟨valV_pos rfl,List.mem_cons_self ..⟩
   ·simp only [if_neg (ne y hy)]
    refine ⟨?_,List.mem_cons_of_mem _ (l1 y hy).2⟩
    rw [show rowsK (x :: nm) (a :: as)=((Sum.inr x:Key),V.ref a) :: rowsK nm as from rfl,valV_neg (fun z=>ne y hy (Sum.inr.inj z).symm)]
    exact (l1 y hy).1
  ·rcases List.mem_cons.mp hy with ey | hy
   ·rcases List.mem_cons.mp hz with ez | hz
    ·rw [ey,ez]
    ·simp only [if_pos ey,if_neg (ne z hz)] at e
     exact absurd (e ▸ (l1 z hz).2) a1
   ·rcases List.mem_cons.mp hz with ez | hz
    ·simp only [if_pos ez,if_neg (ne y hy)] at e
     exact absurd (e ▸ (l1 y hy).2) a1
    ·simp only [if_neg (ne y hy),if_neg (ne z hz)] at e
     exact l2 y hy z hz e
theorem rows_merge {nm:List Str} {as:List Addr} (h:nm.Nodup) (hl:nm.length ≤ as.length):mergeK [] (rowsK nm as)=rowsK nm as:=by
 have:∀ (a b:List (Key × V)),((a ++ b).map (·.1)).Nodup→mergeK a b=a ++ b:=by
  intro a b
  induction b generalizing a with
  | nil=>intro _; rw [List.append_nil]; rfl
  | cons k b ih=>
   intro h
   have hk:valV a k.1=none:=by
    unfold valV
    rw [List.find?_eq_none.mpr fun q hq z=>?_]
    ·rfl
    ·rw [List.map_append] at h
     exact (List.nodup_append.mp h).2.2 q.1 (List.mem_map_of_mem hq) k.1 (List.mem_map_of_mem (List.mem_cons_self ..)) (of_decide_eq_true z)
   show mergeK (putK a k.1 k.2) b=_
   rw [putK_new _ hk,ih _ (by simpa using h)]
   simp
 rw [this [] _ ?_]
 ·rfl
 ·rw [List.nil_append]
  unfold rowsK
  rw [List.map_map]
  have e:((fun x:Key × V=>x.1) ∘ fun p:Str × Addr=>((Sum.inr p.1:Key),V.ref p.2))=(fun x:Str=>(Sum.inr x:Key)) ∘ (·.1):=rfl
  rw [e,← List.map_map]
  have hs:((nm.zip as).map (·.1)).Nodup:=by
   rw [List.map_fst_zip hl]
   exact h
  exact List.Pairwise.map _ (fun a b hab e=>hab (Sum.inr.inj e)) hs
theorem touch_snoc (ts:List Tie) (t:Tie) (x:Str):touch (ts ++ [t]) x=touch ts x ++ (if t.2.1=x ∨ t.2.2.1=x then [t] else []):=by
 unfold touch
 rw [List.filter_append]
 congr 1
 by_cases h:t.2.1=x ∨ t.2.2.1=x
 ·rw [if_pos h,List.filter_cons,if_pos (by simpa using h)]
  rfl
 ·rw [if_neg h,List.filter_cons,if_neg (by simpa using h)]
  rfl
section
variable {P : Program} {w : World} {K : PySem.W.Frag} {mg : Str → Option Value} {base : Heap}
def sp_ties_by_post:Sp:=fun vs H Q _=>∃ (ln l:Addr) (nm:List Str) (ts:List Tie),vs=[.ref ln,.ref l]∧H ln=some (.lst (nm.map V.str))∧TiesAt H l ts∧nm.Nodup∧nm.length ≤ 1000∧ts.length ≤ 1000∧Ends ts nm∧(∀ t ∈ ts,t.2.1 ≠ t.2.2.1)∧
 ∀ d H',Same H H'→H d=none→TouchAt H' d nm ts→Q (.ref d) H'
abbrev s_ties_by_post:Stmt:=top 13
theorem sc_ties_by_post:FnScope ["names","ties","touching","tie"] ["names","ties"] (defScope s_ties_by_post):=⟨rfl,rfl,rfl,by decide +kernel,rfl,by decide +kernel,by decide +kernel⟩
theorem ok_ties_by_post {f:Addr} {fd:FuncData} (F:Fun K "ties_by_post" "ties_by_post" s_ties_by_post f fd) (T:TxtD mg):FnOk P w K mg base CX0 1 f fd ["names","ties"] sp_ties_by_post:=by
 refine F.ok sc_ties_by_post (fun vs H Q E h=>?_) (fun cdv A outer s H vs Q E hr h=>?_)
 ·obtain ⟨ln,l,nm,ts,rfl,_⟩:=h
  rfl
 ·obtain ⟨ln,l,nm,ts,rfl,hln,⟨xs,hx,hp⟩,hnd,hz,htz,hE,hne,q⟩:=h
  have ND:=sc_ties_by_post.nd
  have hxl:=Paired.length hp
  refine ⟨_,(pss_cons (ps_set (i:=2) ND rfl (by first | exact Or.inl rfl | exact Or.inr rfl) (pe_callTy (call_dict_pairs rfl) rfl T.n_dict boot_dict (pa_cons (pe_comp rfl (compScope_of (nT:=1) (js:=[]) (N':=["name"]) rfl rfl (by kernel_rfl)) (pilK K (pv 0))
  (fun _ _ _ _ _=>(pg_name (i:=0) (show List.Nodup (["name"]:List Str) by decide +kernel) rfl (by first | exact Or.inl rfl | exact Or.inr rfl)))
  (fun _ _ _ _ _=>pif_nil)
  (fun _ _ _ _ _=>(pe_tupS (pa_cons (pv 0) (pa_cons (pe_lstS pa_nil) pa_nil))))) pa_nil)))
 (pss_cons (ps_for PassesOwn.never rfl (pilK K (pv 1)) (pg_name (i:=3) ND rfl (by first | exact Or.inl rfl | exact Or.inr rfl))
  (pss_cons (ps_expr (bmK K PySem.F.plainAttrs_list PySem.F.slot_list_append PySem.F.type_list_append mt_append (pe_dget (hu_of hr) (pv 2) (pe_ix (ixtK K) (pv 3) pe_int (fun _ _=>rfl)) (fun _ _=>rfl)) (pa_cons (pv 3) pa_nil)))
 (pss_one (ps_expr (bmK K PySem.F.plainAttrs_list PySem.F.slot_list_append PySem.F.type_list_append mt_append (pe_dget (hu_of hr) (pv 2) (pe_ix (ixtK K) (pv 3) pe_int (fun _ _=>rfl)) (fun _ _=>rfl)) (pa_cons (pv 3) pa_nil))))))
 (pss_one (ps_ret (pv 2))))),?_⟩
  refine ⟨_,rfl,ln,rfl,⟨_,SqL.of hln⟩,comp_list (K:=K) (xs:=nm.map V.str) (fun lc i H1=>H lc=none∧Same H H1∧∃ as:List Addr,as.length=i∧as.Nodup∧(∀ a ∈ as,H1 a=some (.lst [])∧H a=none∧a ≠ lc)∧∃ vs,H1 lc=some (.lst vs)∧Paired (fun v (kv:Key × V)=>∃ t,v=.ref t∧H1 t=some (.tup [kV kv.1,kv.2])) vs (rowsK (nm.take i) as))
   (fun lc hlc=>⟨hlc,same_upd (Same.refl _) hlc,[],rfl,List.nodup_nil,(fun a ha=>nomatch ha),[],upd_same,.nil⟩) (fun lc i H1 _ h=>SqL.of (h.2.1 _ _ hln)) (fun lc i v H1 ev h=>?_) (fun lc H1 h=>?_)⟩
  ·obtain ⟨hlc,e1,as,hal,han,has,vs,hvs,hpv⟩:=h
   obtain ⟨x,ex,rfl⟩:∃ x,nm[i]?=some x∧v=.str x:=by
    rw [List.getElem?_map] at ev
    cases hm:nm[i]? with
    | none=>rw [hm] at ev; cases ev
    | some m=>rw [hm] at ev; exact ⟨m,rfl,by simpa using ev.symm⟩
   have hi:i < nm.length:=(List.getElem?_eq_some_iff.mp ex).1
   dsimp only [tYes]
   rw [if_pos rfl]
   refine ⟨_,rfl,(by show 0 ≤ sizeLine; decide),fun a H2 e2 h2 ha=>⟨(by show 2 ≤ sizeLine; decide),fun t H3 e3 h3 ht=>?_⟩⟩
   have hvl:=Paired.length hpv
   have hrl:(rowsK (nm.take i) as).length=i:=by
    unfold rowsK
    rw [List.length_map,List.length_zip,List.length_take,hal]
    omega
   have alc:a ≠ lc:=fun z=>by rw [z,hvs] at h2; cases h2
   have tlc:t ≠ lc:=fun z=>by rw [z,e2 _ _ hvs] at h3; cases h3
   refine ⟨vs,e3 _ _ (e2 _ _ hvs),by rw [hvl,hrl]; show i < 2 ^ 24; omega,hlc,same_new (e1.trans (e2.trans e3)) hlc,as ++ [a],by rw [List.length_append,hal]; rfl,?_,fun b hb=>?_,vs ++ [.ref t],upd_same,?_⟩
   ·refine List.nodup_append.mpr ⟨han,by simp,fun b hb b' hb' e=>?_⟩
    rw [List.mem_singleton.mp hb'] at e
    rw [e] at hb
    have:=(has a hb).1
    rw [h2] at this
    cases this
   ·rcases List.mem_append.mp hb with hb | hb
    ·obtain ⟨b1,b2,b3⟩:=has b hb
     exact ⟨by rw [upd_ne b3]; exact e3 _ _ (e2 _ _ b1),b2,b3⟩
    ·rw [List.mem_singleton.mp hb]
     exact ⟨by rw [upd_ne alc]; exact e3 _ _ ha,e1.free h2,alc⟩
   ·have tk:nm.take (i + 1)=nm.take i ++ [x]:=by rw [List.take_add_one,ex]; rfl
    have er:rowsK (nm.take (i + 1)) (as ++ [a])=rowsK (nm.take i) as ++ [(Sum.inr x,.ref a)]:=by
     unfold rowsK
     rw [tk,List.zip_append (by rw [List.length_take,hal]; omega),List.map_append]
     rfl
    rw [er]
    refine Paired.snoc' (Paired.imp' (fun v kv ⟨t',e',ht'⟩=>⟨t',e',?_⟩) hpv) ⟨t,rfl,by rw [upd_ne tlc]; exact ht⟩
    have:=e3 _ _ (e2 _ _ ht')
    rw [upd_ne (fun z=>by rw [z,e3 _ _ (e2 _ _ hvs)] at this; cases this)]
    exact this
  ·obtain ⟨hlc,e1,as,hal,han,has,vs,hvs,hpv⟩:=h
   rw [List.length_map] at hal hpv
   rw [List.take_length] at hpv
   have hrl:(rowsK nm as).length ≤ 1000:=by
    unfold rowsK
    rw [List.length_map,List.length_zip,hal]
    omega
   refine ⟨lc,_,rfl,⟨vs,hvs,hpv⟩,hrl,fun d H2 e2 h2 hd=>?_⟩
   rw [rows_merge hnd (by omega)] at hd
   obtain ⟨LA,la1,la2⟩:=rows_val nm as hnd han hal.symm
   generalize rowsK nm as=kvs at la1 hd
   have e02:=e1.trans e2
   have dN:∀ x ∈ nm,LA x ≠ d:=fun x hx z=>by
    have:=(has _ (la1 x hx).2).1
    rw [z,h2] at this
    cases this
   have lN:∀ x ∈ nm,H (LA x)=none:=fun x hx=>(has _ (la1 x hx).2).2.1
   refine ⟨_,rfl,l,rfl,⟨_,SqL.of (e02 _ _ hx)⟩,?_⟩
   refine for_list (K:=K) (xs:=xs) (fun j σ H3=>(∃ o,σ=[some (.ref ln),some (.ref l),some (.ref d),o])∧Same H H3∧H3 d=some (.dK kvs)∧∀ x ∈ nm,TiesAt H3 (LA x) (touch (ts.take j) x))
    ⟨⟨_,rfl⟩,e02,hd,fun x hx=>⟨[],e2 _ _ (has _ (la1 x hx).2).1,.nil⟩⟩ (fun j σ H3 _ h=>SqL.of (h.2.1 _ _ hx)) ?_ ?_
   ·rintro j v σ H3 ev ⟨⟨o,rfl⟩,e3,hd3,hT⟩
    obtain ⟨t,et,p,rfl,hpt⟩:=Paired.at hp ev
    have htm:t ∈ ts:=List.mem_of_getElem? et
    obtain ⟨m1,m2⟩:=hE t htm
    have tk:ts.take (j + 1)=ts.take j ++ [t]:=by rw [List.take_add_one,et]; rfl
    have n12:LA t.2.1 ≠ LA t.2.2.1:=fun z=>hne t htm (la2 _ m1 _ m2 z)
    have hp3:=e3 _ _ hpt
    obtain ⟨ys,hy,hpy⟩:=hT _ m1
    obtain ⟨zs,hz3,hpz⟩:=hT _ m2
    have hyl:ys.length ≤ 1000:=by
     rw [Paired.length hpy]
     exact Nat.le_trans (List.length_filter_le _ _) (Nat.le_trans (by rw [List.length_take]; omega) htz)
    have hzl:zs.length ≤ 1000:=by
     rw [Paired.length hpz]
     exact Nat.le_trans (List.length_filter_le _ _) (Nat.le_trans (by rw [List.length_take]; omega) htz)
    refine ⟨_,rfl,_,rfl,p,_,1,_,rfl,rfl,SqT.of hp3,rfl,d,.ref (LA t.2.1),rfl,(by rw [← (la1 _ m1).1]; exact DGet.k (k:=Sum.inr t.2.1) hd3),.inl ⟨rfl,_,SqL.of hy⟩,_,rfl,LA t.2.1,_,_,rfl,rfl,hy,by show ys.length < 2 ^ 24; omega,?_⟩
    have e4:Same H (upd H3 (LA t.2.1) (.lst (ys ++ [.ref p]))):=same_new e3 (lN _ m1)
    have hd4:upd H3 (LA t.2.1) (.lst (ys ++ [.ref p])) d=some (.dK kvs):=by rw [upd_ne (dN _ m1).symm]; exact hd3
    have hz4:upd H3 (LA t.2.1) (.lst (ys ++ [.ref p])) (LA t.2.2.1)=some (.lst zs):=by rw [upd_ne n12.symm]; exact hz3
    have hp4:=e4 _ _ hpt
    refine ⟨_,rfl,_,rfl,p,_,2,_,rfl,rfl,SqT.of hp4,rfl,d,.ref (LA t.2.2.1),rfl,(by rw [← (la1 _ m2).1]; exact DGet.k (k:=Sum.inr t.2.2.1) hd4),.inl ⟨rfl,_,SqL.of hz4⟩,_,rfl,LA t.2.2.1,_,_,rfl,rfl,hz4,by show zs.length < 2 ^ 24; omega,?_⟩
    have keep:∀ {v:V} {u:Tie},TieAt H3 v u→TieAt (upd (upd H3 (LA t.2.1) (.lst (ys ++ [.ref p]))) (LA t.2.2.1) (.lst (zs ++ [.ref p]))) v u:=fun {v u} ⟨b,h1,h2⟩=>⟨b,h1,by
     rw [upd_ne (fun z=>by rw [z,hz3] at h2; cases h2),upd_ne (fun z=>by rw [z,hy] at h2; cases h2)]
     exact h2⟩
    refine ⟨⟨_,rfl⟩,same_new e4 (lN _ m2),by rw [upd_ne (dN _ m2).symm]; exact hd4,fun x hx=>?_⟩
    rw [tk,touch_snoc]
    by_cases h1:t.2.1=x
    ·rw [if_pos (.inl h1)]
     subst h1
     refine ⟨ys ++ [.ref p],by rw [upd_ne n12,upd_same],?_⟩
     exact Paired.snoc' (Paired.imp' (fun _ _ z=>keep z) hpy) (keep ⟨p,rfl,hp3⟩)
    ·by_cases h2:t.2.2.1=x
     ·rw [if_pos (.inr h2)]
      subst h2
      refine ⟨zs ++ [.ref p],upd_same,?_⟩
      exact Paired.snoc' (Paired.imp' (fun _ _ z=>keep z) hpz) (keep ⟨p,rfl,hp3⟩)
     ·rw [if_neg (by rintro (z | z); exact h1 z; exact h2 z),List.append_nil]
      obtain ⟨us,hu,hpu⟩:=hT x hx
      refine ⟨us,?_,Paired.imp' (fun _ _ z=>keep z) hpu⟩
      rw [upd_ne (fun z=>h2 (la2 _ hx _ m2 z).symm),upd_ne (fun z=>h1 (la2 _ hx _ m1 z).symm)]
      exact hu
   ·rintro σ H3 ⟨⟨o,rfl⟩,e3,hd3,hT⟩
    rw [hxl,List.take_length] at hT
    exact ⟨_,rfl,q d H3 e3 (e1.free h2) ⟨kvs,hd3,fun x hx=>⟨LA x,(la1 x hx).1,hT x hx⟩⟩⟩
end
end K31
set_option maxRecDepth 100000
namespace K31
open PySem L2 L2.Wy
open PyProof.Rows (boot_list boot_int boot_bool boot_tuple boot_str boot_dict boot_all)
theorem inV_strs (x:Str):∀ zs:List Str,inV (.str x) (zs.map V.str)=decide (x ∈ zs)
 | []=>by simp [inV]
 | z :: zs=>by
  have ih:=inV_strs x zs
  unfold inV at ih ⊢
  rw [List.map_cons,List.any_cons,ih]
  have:eqV (V.str x) (V.str z)=(x == z):=rfl
  rw [Bool.eq_iff_iff]
  simp [eqV]
  exact ⟨fun h=>h.imp Eq.symm id,fun h=>h.imp Eq.symm id⟩
theorem flat_strs (zs:List Str):(zs.map V.str).all flatV=true:=by
 rw [List.all_map,List.all_eq_true]
 intro z _
 rfl
theorem useF_len (c:Cm Str):∀ (n:Nat) (U:List Int) (s:Option (Int × Str)),(useF c n U s).length ≤ U.length + n
 | 0,U,s=>Nat.le_refl _
 | n + 1,U,none=>Nat.le_add_right _ _
 | n + 1,U,some (k,x)=>by
  rw [useF_some]
  have:=useF_len c n (tog U k) (stepOf c x)
  have:=tog_len U k
  omega
structure WOk (S : NS) (fo : Option (List Int)) (ho : Option Str) (N : Nat) : Prop where
  parts : ∀ h g, Parts (stand S.ties fo) h g N
  ends : Ends (stand S.ties fo) S.names
  nn : S.names.Nodup
  hN : S.names.length ≤ N
  hh : ∀ x, ho = some x → x ∈ S.names
  home : homeV S.home = oS ho
  tl : S.ties.length ≤ 1000
  pl : S.posts.length ≤ 1000
def WaysV (H0 H:Hp) (v:V):Sum (List Int) (List (List Int))→Prop
 | .inl ks=>∃ tp lo,v=.ref tp∧H0 tp=none∧H0 lo=none∧H tp=some (.tup [.str "cut",.ref lo])∧H lo=some (.lst (ks.map V.int))
 | .inr wss=>∃ tp lo,v=.ref tp∧H0 tp=none∧H0 lo=none∧H tp=some (.tup [.str "ways",.ref lo])∧WaysAt H0 H lo wss
def waysR (ts:List Tie) (ho:Option Str) (g:Str) (N m:Nat):Sum (List Int) (List (List Int)):=match ho with
 | none=>.inl []
 | some h=>match waysF ts (some h) g N m [] with
  | .inl ks=>.inl ks
  | .inr U=>.inr (partF h g N m (ts.filter fun t=>inU U t.1))
theorem waysR_some (ts:List Tie) (h g:Str) (N m:Nat):waysR ts (some h) g N m=match waysF ts (some h) g N m [] with
  | .inl ks=>.inl ks
  | .inr U=>.inr (partF h g N m (ts.filter fun t=>inU U t.1)):=rfl
section
variable {P : Program} {w : World} {K : PySem.W.Frag} {mg : Str → Option Value} {base : Heap}
def sp_exinit (C:Addr) (f:Str):Sp:=fun vs H Q _=>∃ (ea:Addr) (y:V),vs=[.ref ea,y]∧H ea=some (excN ea C)∧∀ dx,H dx=none→dx ≠ ea→Q .non (upd (upd H dx (.xd [(f,y)])) ea (excM ea C dx))
abbrev s_NoPost___init__:Stmt:=inClass (top 10) 0
theorem sc_NoPost___init__:FnScope ["self","name"] ["self","name"] (defScope s_NoPost___init__):=⟨rfl,rfl,rfl,by decide +kernel,rfl,by decide +kernel,by decide +kernel⟩
theorem ok_NoPost_init {C:Addr} {f:Addr} {fd:FuncData} (F:Fun K "__init__" "NoPost.__init__" s_NoPost___init__ f fd) (T:ExcF K C "name"):FnOk P w K mg base CX0 1 f fd ["self","name"] (sp_exinit C "name"):=by
 refine F.ok sc_NoPost___init__ (fun vs H Q E h=>?_) (fun cdv A outer s H vs Q E hr h=>?_)
 ·obtain ⟨ea,y,rfl,_⟩:=h
  rfl
 ·obtain ⟨ea,y,rfl,he,q⟩:=h
  refine ⟨_,(pss_one (ps_fldE T (pv 0) (pv 1) rfl)),?_⟩
  exact ⟨_,rfl,_,rfl,ea,rfl,he,q⟩
def sp_ways (c:Cl) (NP:Addr):Sp:=fun vs H Q E=>∃ (n dp dt:Addr) (S:NS) (ho:Option Str) (g:Str) (m N:Nat) (fv:V) (fo:Option (List Int)),vs=[.ref n,.str g,.int m,fv]∧NetAt c H n dp dt S∧FallAt H fv fo∧WOk S fo ho N∧1 ≤ m∧m ≤ 1000∧
 (¬ g ∈ S.lis→∀ dx H',Same H H'→H' dx=some (.xd [("name",.str g)])→E (.ref NP) (some dx) H')∧
 (g ∈ S.lis→∀ v H',Same H H'→WaysV H H' v (waysR (stand S.ties fo) ho g N m)→Q v H')
abbrev s_ways:Stmt:=top 21
theorem sc_ways:FnScope ["net","listener","many","fallen","home","ties","touching","used","turn","came"] ["net","listener","many","fallen"] (defScope s_ways):=⟨rfl,rfl,rfl,by decide +kernel,rfl,by decide +kernel,by decide +kernel⟩
theorem ok_ways {c:Cl} {NP:Addr} {f:Addr} {fd:FuncData} (F:FunD K "ways" "ways" s_ways f fd) (T:TxtD mg) (D_NoPost:DiX P w K mg base 1 "NoPost" NP ["self","name"] (sp_exinit NP "name")) (D_Net_listeners:Dm P w K mg base 2 c.net "listeners" ["self"] (sp_listeners c)) (D_Net_home:Dm P w K mg base 2 c.net "home" ["self"] (sp_home c)) (D_Net_names:Dm P w K mg base 1 c.net "names" ["self"] (sp_names c))
  (D_standing_ties:Df P w K mg base 2 "standing_ties" ["net","fallen"] (sp_standing_ties c)) (D_ties_by_post:Df P w K mg base 1 "ties_by_post" ["names","ties"] sp_ties_by_post) (D_reached_from:Df P w K mg base 2 "reached_from" ["home","touching","used"] sp_reached_from)
  (D_used_with:Df P w K mg base 1 "used_with" ["used","came","listener"] sp_used_with) (D_ties_between:Df P w K mg base 1 "ties_between" ["ties","came"] sp_ties_between) (D_parted_ways:Df P w K mg base 3 "parted_ways" ["ties","home","listener","many"] sp_parted_ways):
  FnOk P w K mg base (CXE P w) 4 f fd ["net","listener","many","fallen"] (sp_ways c NP):=by
 refine FunD.okX F sc_ways (fun vs H Q E h=>?_) (fun cdv A outer s H vs Q E hr h=>?_)
 ·obtain ⟨n,dp,dt,S,ho,g,m,N,fv,fo,rfl,_⟩:=h
  rfl
 ·obtain ⟨n,dp,dt,S,ho,g,m,N,fv,fo,rfl,NA,hf,O,hm1,hm,qE,q⟩:=h
  have ND:=sc_ways.nd
  obtain ⟨dx,h1⟩:=id NA.ins
  have few:=(O.parts g g).few
  obtain ⟨rk,hr1,hr2⟩:=(O.parts g g).rk
  have nd0:=(O.parts g g).nd
  have many0:=(O.parts g g).many
  have fall:∀ {H'},Same H H'→FallAt H' fv fo:=fun {H'} e=>by
   cases fo with
   | none=>exact hf
   | some fs=>obtain ⟨l,a,b⟩:=hf; exact ⟨l,a,e _ _ b⟩
  refine ⟨_,(pss_cons (ps_if (pt_cmpR (notinK K) (pv 1) (pe_meth0D (pv 0) D_Net_listeners (hr.mono (by decide))) (by with_unfolding_all rfl))
  (pss_one (ps_raiseI own_def rfl dict_def rfl D_NoPost (hr.mono (by decide)) (pa_cons (pv 1) pa_nil)))
  pss_nil)
 (pss_cons (ps_set (i:=4) ND rfl (by first | exact Or.inl rfl | exact Or.inr rfl) (pe_meth0D (pv 0) D_Net_home (hr.mono (by decide))))
 (pss_cons (ps_set (i:=5) ND rfl (by first | exact Or.inl rfl | exact Or.inr rfl) (pe_callD D_standing_ties (hr.mono (by decide)) rfl (pa_cons (pv 0) (pa_cons (pv 3) pa_nil))))
 (pss_cons (ps_set (i:=6) ND rfl (by first | exact Or.inl rfl | exact Or.inr rfl) (pe_callD D_ties_by_post (hr.mono (by decide)) rfl (pa_cons (pe_meth0D (pv 0) D_Net_names (hr.mono (by decide))) (pa_cons (pv 5) pa_nil))))
 (pss_cons (ps_set (i:=7) ND rfl (by first | exact Or.inl rfl | exact Or.inr rfl) pe_dnewK)
 (pss_cons (ps_for PassesOwn.leaving rfl (pi_range1 rfl T.n_range (pa_cons (pv 2) pa_nil)) (pg_name (i:=8) ND rfl (by first | exact Or.inl rfl | exact Or.inr rfl))
  (pss_cons (ps_set (i:=9) ND rfl (by first | exact Or.inl rfl | exact Or.inr rfl) (pe_callD D_reached_from (hr.mono (by decide)) rfl (pa_cons (pv 4) (pa_cons (pv 6) (pa_cons (pv 7) pa_nil)))))
 (pss_cons (ps_if (pt_cmp (pc_dnotin (hu_of hr) (pv 1) (pv 9)))
  (pss_one (ps_ret (pe_tupS (pa_cons pe_str (pa_cons (pe_callD D_ties_between (hr.mono (by decide)) rfl (pa_cons (pv 5) (pa_cons (pv 9) pa_nil))) pa_nil)))))
  pss_nil)
 (pss_one (ps_set (i:=7) ND rfl (by first | exact Or.inl rfl | exact Or.inr rfl) (pe_callD D_used_with (hr.mono (by decide)) rfl (pa_cons (pv 7) (pa_cons (pv 9) (pa_cons (pv 1) pa_nil)))))))))
 (pss_one (ps_ret (pe_tupS (pa_cons pe_str (pa_cons (pe_callD D_parted_ways (hr.mono (by decide)) rfl (pa_cons (pe_comp rfl (compScope_of (nT:=1) (js:=[7]) (N':=["tie","used"]) rfl rfl (by kernel_rfl)) (pilK K (pv 5))
  (fun _ _ _ _ _=>(pg_name (i:=0) (show List.Nodup (["tie","used"]:List Str) by decide +kernel) rfl (by first | exact Or.inl rfl | exact Or.inr rfl)))
  (fun _ _ _ _ _=>(pif_one (pt_cmp (pc_din (hu_of hr) (pe_ix (ixtK K) (pv 0) pe_int (fun _ _=>rfl)) (pv 1)))))
  (fun _ _ _ _ _=>(pv 0))) (pa_cons (pv 4) (pa_cons (pv 1) (pa_cons (pv 2) pa_nil))))) pa_nil))))))))))),?_⟩
  refine ⟨_,rfl,_,rfl,n,dx,_,rfl,h1,rfl,n,dp,dt,S,rfl,NA,O.pl,fun l1 H1 e1 h01 hl1=>⟨l1,_,rfl,.inl (SqL.of hl1),rfl,flat_strs _,_,rfl,?_⟩⟩
  rw [if_pos rfl,inV_strs]
  by_cases hgl:g ∈ S.lis
  case neg=>
   rw [decide_eq_false hgl]
   refine iteT ⟨_,rfl,(by show 1 ≤ sizeLine; decide),fun ea hea=>⟨ea,_,rfl,upd_same,fun dy hdy ne=>⟨rfl,dy,upd_same,?_⟩⟩⟩
   have hdy:H1 dy=none:=by rw [upd_ne ne] at hdy; exact hdy
   refine qE hgl dy _ (fun b o hb=>?_) ?_
   ·have hb:=e1 _ _ hb
    rw [hide_ne (ne_of_none hb hea),upd_ne (ne_of_none hb hea),upd_ne (ne_of_none hb hdy),upd_ne (ne_of_none hb hea)]
    exact hb
   ·rw [hide_ne ne,upd_ne ne]
    exact upd_same
  rw [decide_eq_true hgl]
  have q:=q hgl
  refine iteF ?_
  have N1:=NA.mono e1
  refine ⟨_,rfl,n,dx,_,rfl,e1 _ _ h1,rfl,n,dp,dt,S,rfl,N1,?_⟩
  rw [O.home]
  refine ⟨_,rfl,_,rfl,n,dp,dt,S,fv,fo,rfl,N1,O.tl,fall e1,fun lt H2 e2 h02 hlt=>?_⟩
  have Oends:=O.ends
  generalize hts:stand S.ties fo=ts at nd0 many0 hr1 hlt q Oends
  have PT:∀ h g,Parts ts h g N:=fun h g=>hts ▸ O.parts h g
  have Es:Ends ts S.names:=Oends
  have e12:=e1.trans e2
  refine ⟨_,rfl,n,dx,_,rfl,e12 _ _ h1,rfl,n,dp,dt,S,rfl,NA.mono e12,fun ln H3 e3 h03 hln=>?_⟩
  have hpl:S.names.length ≤ 1000:=Nat.le_trans O.hN few
  refine ⟨_,rfl,ln,lt,S.names,ts,rfl,hln,hlt.mono e3,O.nn,hpl,many0,Es,fun t ht z=>by have:=hr1 t ht; rw [z] at this; omega,fun td H4 e4 h04 htd=>?_⟩
  have e14:=e12.trans (e3.trans e4)
  have hlt4:=hlt.mono (e3.trans e4)
  intro u hu0
  have eu:Same H4 (upd H4 u (.dK [])):=same_upd (Same.refl _) hu0
  have huD:upd H4 u (.dK []) u=some (usedD []):=upd_same
  generalize upd H4 u (.dK [])=H5 at eu huD
  refine ⟨_,rfl,(m:Int),rfl,by omega,by omega,?_⟩
  rw [Int.toNat_natCast]
  cases ho with
  | none=>
   refine for_range (lo:=0) (n:=m) (fun i σ H'=>i=0∧σ=[some (.ref n),some (.str g),some (.int m),some fv,some .non,some (.ref lt),some (.ref td),some (.ref u),none,none]∧H'=H5)
    ⟨rfl,rfl,rfl⟩ ?_ ?_
   ·rintro i σ H6 hi ⟨rfl,rfl,rfl⟩
    refine ⟨_,rfl,_,rfl,_,rfl,none,td,u,[],S.names,ts,N,rfl,htd.mono eu,huD,Es,(fun x hx=>nomatch hx),O.hN,hpl,many0,fun cd H7 e7 h7 hcd=>?_⟩
    have er:reach ts (inU []) N none=[]:=rfl
    rw [er] at hcd
    obtain ⟨kvs,hk1,hk2⟩:=id hcd
    refine ⟨_,rfl,_,rfl,cd,_,rfl,DGet.k (k:=Sum.inr g) hk1,_,rfl,?_⟩
    rw [came_val hk2,decide_eq_false (show ¬ g ∈ keys ([]:Cm Str) from fun z=>nomatch z)]
    have eb:=eu.trans e7
    refine iteT ⟨_,rfl,_,rfl,lt,cd,ts,[],rfl,(hlt4.mono eu).mono e7,many0,hcd,fun lo H8 e8 h8 hlo=>⟨(by show 2 ≤ sizeLine; decide),fun tp H9 e9 h9 htp=>q (.ref tp) H9 (e14.trans (eu.trans (e7.trans (e8.trans e9)))) ?_⟩⟩
    refine ⟨tp,lo,rfl,e14.free (eb.free (e8.free h9)),e14.free (eb.free h8),htp,?_⟩
    rw [cutK_nil] at hlo
    exact e9 _ _ hlo
   ·rintro σ H6 ⟨z,_⟩
    omega
  | some h=>
   have hh:=O.hh h rfl
   refine for_range (lo:=0) (n:=m) (fun i σ H'=>∃ (ui:Addr) (Ui:List Int) (o8 o9:Option V),σ=[some (.ref n),some (.str g),some (.int m),some fv,some (.str h),some (.ref lt),some (.ref td),some (.ref ui),o8,o9]∧Same H4 H'∧H' ui=some (usedD Ui)∧Ui.Nodup∧Ui.length ≤ i * N∧Flow ts (inU Ui) h g i∧i ≤ m∧waysF ts (some h) g N m []=waysF ts (some h) g N (m - i) Ui)
    ⟨u,[],none,none,rfl,eu,huD,List.nodup_nil,Nat.zero_le _,flow_nil ts h g,Nat.zero_le _,rfl⟩ ?_ ?_
   ·rintro i σ H6 hi ⟨ui,Ui,o8,o9,rfl,e6,hu6,hnd,hul,Fi,him,eW⟩
    have htd6:=htd.mono e6
    have hlt6:=hlt4.mono e6
    refine ⟨_,rfl,_,rfl,_,rfl,some h,td,ui,Ui,S.names,ts,N,rfl,htd6,hu6,Es,fun x hx=>by cases hx; exact hh,O.hN,hpl,many0,fun cd H7 e7 h7 hcd=>?_⟩
    rw [show m - i=m - (i + 1) + 1 by omega,waysF_succ] at eW
    have R:=reach_ok (ts:=ts) (U:=inU Ui) Es hh O.hN
    generalize reach ts (inU Ui) N (some h)=cc at hcd eW R
    have ccl:cc.length ≤ N:=by
     have:=sub_len R.came.nd (R.came.names Es hh)
     have e:(keys cc).length=cc.length:=List.length_map _
     have:=O.hN
     omega
    obtain ⟨kvs,hk1,hk2⟩:=id hcd
    refine ⟨_,rfl,_,rfl,cd,_,rfl,DGet.k (k:=Sum.inr g) hk1,_,rfl,?_⟩
    rw [came_val hk2]
    by_cases hg:g ∈ keys cc
    ·rw [if_pos hg] at eW
     rw [decide_eq_true hg]
     have hUl:i * N ≤ 1000 * 1000:=Nat.mul_le_mul (by omega) few
     refine iteF ⟨_,rfl,_,rfl,_,rfl,ui,cd,Ui,cc,ts,h,g,N,rfl,e7 _ _ hu6,hcd,R.came,nd0,hg,hnd,ccl,by omega,by omega,fun un H8 e8 h8 hun=>?_⟩
     obtain ⟨F',hnd'⟩:=useF_flow nd0 R.came Fi hg hnd ccl
     refine ⟨un,_,_,_,rfl,e6.trans (e7.trans e8),hun,hnd',?_,?_,by omega,eW⟩
     ·have:=useF_len cc N Ui (stepOf cc g)
      rw [Nat.succ_mul]
      omega
     ·rw [show ((i + 1:Nat):Int)=(i:Int) + 1 by omega]
      exact F'
    ·rw [if_neg hg] at eW
     rw [decide_eq_false hg]
     have eb:=e6.trans e7
     refine iteT ⟨_,rfl,_,rfl,lt,cd,ts,cc,rfl,hlt6.mono e7,many0,hcd,fun lo H8 e8 h8 hlo=>⟨(by show 2 ≤ sizeLine; decide),fun tp H9 e9 h9 htp=>q (.ref tp) H9 (e14.trans (e6.trans (e7.trans (e8.trans e9)))) ?_⟩⟩
     rw [waysR_some,eW]
     exact ⟨tp,lo,rfl,e14.free (eb.free (e8.free h9)),e14.free (eb.free h8),htp,e9 _ _ hlo⟩
   ·rintro σ H6 ⟨ui,Ui,o8,o9,rfl,e6,hu6,hnd,hul,Fi,him,eW⟩
    rw [Nat.sub_self] at eW
    have eW:waysF ts (some h) g N m []=.inr Ui:=eW
    obtain ⟨ys,hy,hpy⟩:=hlt4.mono e6
    have hyl:=Paired.length hpy
    refine ⟨_,rfl,lt,rfl,⟨_,SqL.of hy⟩,compG_list (K:=K) (fun i=>inU Ui (ts.getD i (0,"","",0)).1) (fun i=>ys.getD i .non) hy (by omega) (fun j x H7 ex e7=>?_) (fun l7 H7 h7 e7 hl7=>?_)⟩
    ·obtain ⟨t,et,p,rfl,hpt⟩:=Paired.at hpy ex
     have eg:ts.getD j (0,"","",0)=t:=by rw [List.getD_eq_getElem?_getD,et]; rfl
     have egx:ys.getD j .non=.ref p:=by rw [List.getD_eq_getElem?_getD,ex]; rfl
     rw [eg,egx]
     refine ⟨_,rfl,p,_,0,_,rfl,rfl,SqT.of (e7 _ _ hpt),rfl,_,rfl,ui,_,rfl,DGet.k (k:=Sum.inl t.1) (e7 _ _ hu6),_,rfl,?_⟩
     rw [used_val]
     unfold inU
     cases hd:decide (t.1 ∈ Ui) with
     | true=>exact iteT ⟨_,rfl,rfl,rfl,Same.refl _⟩
     | false=>exact iteF ⟨rfl,Same.refl _⟩
    ·have hk7:TiesAt H7 l7 (ts.filter fun t=>inU Ui t.1):=⟨_,hl7,Paired.imp' (fun v t ⟨a,ha,hb⟩=>(⟨a,ha,e7 _ _ hb⟩:TieAt H7 v t)) (kept_rows hpy fun t=>inU Ui t.1)⟩
     have eb:=e6.trans e7
     refine ⟨_,rfl,_,rfl,_,rfl,l7,ts,inU Ui,h,g,m,N,rfl,hk7,PT h g,Fi,hm,fun lo H8 e8 h8 hlo=>⟨(by show 2 ≤ sizeLine; decide),fun tp H9 e9 h9 htp=>q (.ref tp) H9 (e14.trans (e6.trans (e7.trans (e8.trans e9)))) ?_⟩⟩
     rw [waysR_some,eW]
     exact ⟨tp,lo,rfl,e14.free (eb.free (e8.free h9)),e14.free (eb.free h8),htp,(hlo.mono e9).base (e14.trans eb)⟩
end
end K31
set_option maxRecDepth 100000
namespace K31
open PySem L2 L2.Wy
open PyProof.Rows (boot_list boot_int boot_bool boot_tuple boot_str boot_dict boot_all)
def cstS (c:Str × Nat × Pos):Expr:=.Constant (.str c.1) c.2.1 c.2.2
def tPrs:List (Str × Str)→TA
 | []=>fun _ H Q=>Q [] H
 | z :: zs=>fun σ H Q=>NewQ H (.tup [.str z.1,.str z.2]) fun x H1=>tPrs zs σ H1 fun vs H2=>Q (x :: vs) H2
abbrev Cp:=(Str × Nat × Pos) × (Str × Nat × Pos) × Nat × Pos
def cstP (c:Cp):Expr:=.Tuple [cstS c.1,cstS c.2.1] c.2.2.1 c.2.2.2
theorem pe_pair {X:Cx} (c:Cp):PE X (cstP c) (fun _ H Q=>NewQ H (.tup [.str c.1.1,.str c.2.1.1]) Q):=fun pins s σ H Q I h=>
 pe_tupS (es:=[cstS c.1,cstS c.2.1]) (pa_cons (e:=.Constant (.str c.1.1) c.1.2.1 c.1.2.2) pe_str (pa_cons (e:=.Constant (.str c.2.1.1) c.2.1.2.1 c.2.1.2.2) pe_str pa_nil)) pins s σ H Q I ⟨(by show 2 ≤ sizeLine; decide),h⟩
theorem pa_prs0 {X:Cx}:∀ cs:List Cp,PA X (cs.map cstP) (tPrs (cs.map fun c=>(c.1.1,c.2.1.1)))
 | []=>pa_nil
 | c :: cs=>pa_cons (e:=cstP c) (es:=cs.map cstP) (pe_pair c) (pa_prs0 cs)
theorem pa_prs {X:Cx} {es:List Expr} {cs:List Cp} {zs:List (Str × Str)} (h:es=cs.map cstP) (k:cs.map (fun c=>(c.1.1,c.2.1.1))=zs):PA X es (tPrs zs):=by
 subst h; subst k; exact pa_prs0 cs
def prsOf (es:List Expr):List Cp:=es.filterMap fun e=>match e with | .Tuple [.Constant (.str i) j p,.Constant (.str i2) j2 p2] x1 q=>some ((i,j,p),(i2,j2,p2),x1,q) | _=>none
theorem tPrs_ok:∀ (zs:List (Str × Str)) (σ:St) (H:Hp) (Q:List V→Hp→Prop),(∀ vs H',Same H H'→Paired (fun v (z:Str × Str)=>∃ a,v=.ref a∧H' a=some (.tup [.str z.1,.str z.2])) vs zs→Q vs H')→tPrs zs σ H Q
 | [],σ,H,Q,q=>q [] H (Same.refl _) .nil
 | z :: zs,σ,H,Q,q=>fun p H2 e2 h2 hp=>tPrs_ok zs σ H2 _ fun vs H3 e3 hv=>q _ H3 (e2.trans e3) (.cons ⟨p,rfl,e3 _ _ hp⟩ hv)
theorem atI_nat {α:Type} {xs:List α} {j:Nat} {x:α} (h:xs[j]?=some x):atI xs (j:Int)=some x:=by
 have hj:=(List.getElem?_eq_some_iff.mp h).1
 unfold atI ixN
 rw [if_pos (Int.natCast_nonneg j),if_pos (by simpa using hj)]
 simpa using h
theorem atI_of {α:Type} {xs:List α} {i:Int} (h0:0 ≤ i) (h:i < xs.length):∃ v,xs[i.toNat]?=some v∧atI xs i=some v:=by
 have hj:i.toNat < xs.length:=by omega
 refine ⟨xs[i.toNat],List.getElem?_eq_getElem hj,?_⟩
 have:=atI_nat (xs:=xs) (j:=i.toNat) (List.getElem?_eq_getElem hj)
 rwa [Int.toNat_of_nonneg h0] at this
structure TxtA (mg : Str → Option Value) : Prop where
  n_len : mg "len" = none
  n_range : mg "range" = none
  n_list : mg "list" = none
  n_sorted : mg "sorted" = none
  n_enumerate : mg "enumerate" = none
  n_isinstance : mg "isinstance" = none
  n_int : mg "int" = none
  n_bool : mg "bool" = none
  n_tuple : mg "tuple" = none
  n_all : mg "all" = none
  n_any : mg "any" = none
  n_set : mg "set" = none
  n_min : mg "min" = none
  n_max : mg "max" = none
theorem div_step (c b:Int) (hb:0 < b) (i:Nat):c / b ^ i / b=c / b ^ (i + 1):=by
 have hp:0 < b ^ i:=Int.pow_pos hb
 rw [Int.pow_succ,Int.ediv_ediv]
 have:¬ (b ^ i < 0∧¬ b ∣ c / b ^ i):=fun z=>by omega
 simp only [this,if_false,Int.sub_zero]
def mixB (c:Int):Int:=if c / 2 % 2=0 then 1000 else 1000000000
theorem mixB_pos (c:Int):0 < mixB c∧mixB c < 1073741824:=by
 unfold mixB
 split <;> decide
def mix1 (c k:Int):Int:=(c + 7919 * k + 1) % 2147483647 * 48271 % 2147483647
def mix2 (x:Int):Int:=x * (x / 1009 + 69621) % 2147483647
def mix3 (x:Int):Int:=x * (x / 127 + 30011) % 2147483647
theorem mod_bnd (x:Int):-(2 ^ 64) < x % 2147483647∧x % 2147483647 < 2 ^ 64:=by
 have b1:=Int.emod_nonneg x (show (2147483647:Int) ≠ 0 by decide)
 have b2:=Int.emod_lt_of_pos x (show (0:Int) < 2147483647 by decide)
 omega
def mixL (c k:Int):Int:=if c % 2=0∧0 < c / 4 / mixB c ^ k.toNat then c / 4 / mixB c ^ k.toNat % mixB c else mix3 (mix2 (mix1 c k))
section
variable {P : Program} {w : World} {K : PySem.W.Frag} {mg : Str → Option Value} {base : Heap}
theorem sqm {H H':Hp} {a:Addr} {xs:List V} (h:SqL K H a xs) (e:Same H H'):SqL K H' a xs:=by
 rcases h with (h | h) | h
 ·exact .inl (.inl (e _ _ h))
 ·obtain ⟨o,h⟩:=h
  exact .inl (.inr ⟨o,e _ _ h⟩)
 ·exact .inr h
abbrev s_Lcell_at:Stmt:=top 38
theorem sc_Lcell_at:FnScope ["_law_script","_law_k"] ["_law_script","_law_k"] (defScope s_Lcell_at):=⟨rfl,rfl,rfl,by decide +kernel,rfl,by decide +kernel,by decide +kernel⟩
def sp_Lcell_at (K:PySem.W.Frag):Sp:=fun vs H Q _=>∃ (a:Addr) (k:Int) (ns:List Int),vs=[.ref a,.int k]∧0 ≤ k∧SqL K H a (ns.map V.int)∧∀ c:Int,Q (.int c) H
theorem ok_Lcell_at {f:Addr} {fd:FuncData} (F:Fun K "_law_cell_at" "_law_cell_at" s_Lcell_at f fd) (T:TxtA mg):FnOk P w K mg base CX0 1 f fd ["_law_script","_law_k"] (sp_Lcell_at K):=by
 refine F.ok sc_Lcell_at (fun vs H Q E h=>?_) (fun cdv A outer s H vs Q E hr h=>?_)
 ·obtain ⟨a,k,ns,rfl,_⟩:=h
  rfl
 ·obtain ⟨a,k,ns,rfl,hk,hS,q⟩:=h
  refine ⟨_,(pss_cons (ps_if (pt_cmpR op_lt (pv 1) (pe_callB (lenK K) rfl T.n_len boot_len (pa_cons (pv 0) pa_nil)) (nomark _))
  (pss_one (ps_ret (pe_ix (ixlK K) (pv 0) (pv 1) (fun _ _=>rfl))))
  pss_nil)
 (pss_one (ps_ret pe_int))),?_⟩
  refine ⟨_,rfl,_,rfl,a,_,rfl,.inl hS,_,_,rfl,rfl,_,rfl,?_⟩
  refine ite2 (fun hc=>?_) (fun hc=>?_)
  ·have hc:=of_decide_eq_true hc
   obtain ⟨v,ev,e⟩:=atI_of hk hc
   rw [List.getElem?_map] at ev
   cases hn:ns[k.toNat]? with
   | none=>rw [hn] at ev; cases ev
   | some z=>
    rw [hn] at ev
    have:v=.int z:=by simpa using ev.symm
    subst this
    exact ⟨_,rfl,_,rfl,a,_,k,_,rfl,rfl,hS,e,q z⟩
  ·exact q 0
abbrev s_Lmix:Stmt:=top 39
theorem sc_Lmix:FnScope ["_law_cell","_law_k","_law_base","_law_left","_law_step","_law_number"] ["_law_cell","_law_k"] (defScope s_Lmix):=⟨rfl,rfl,rfl,by decide +kernel,rfl,by decide +kernel,by decide +kernel⟩
def sp_Lmix:Sp:=fun vs H Q _=>∃ (c k:Int),vs=[.int c,.int k]∧0 ≤ k∧k < 1000∧∀ H',Same H H'→Q (.int (mixL c k)) H'
theorem ok_Lmix {f:Addr} {fd:FuncData} (F:Fun K "_law_mix" "_law_mix" s_Lmix f fd) (T:TxtA mg):FnOk P w K mg base CX0 1 f fd ["_law_cell","_law_k"] sp_Lmix:=by
 refine F.ok sc_Lmix (fun vs H Q E h=>?_) (fun cdv A outer s H vs Q E hr h=>?_)
 ·obtain ⟨c,k,rfl,_⟩:=h
  rfl
 ·obtain ⟨c,k,rfl,hk,hk2,q⟩:=h
  have ND:=sc_Lmix.nd
  refine ⟨_,(pss_cons (ps_ifJ (pt_cmpR op_eq (pe_op op_mod (pv 0) pe_int) pe_int (nomark _))
  (pss_cons (ps_set (i:=2) ND rfl (by first | exact Or.inl rfl | exact Or.inr rfl) (pe_ix (ixlK K) (pe_lstS (pa_cons pe_int (pa_cons (pe_op op_pow pe_int pe_int) pa_nil))) (pe_op op_mod (pe_op op_fdiv (pv 0) pe_int) pe_int) (fun _ _=>rfl)))
 (pss_cons (ps_set (i:=3) ND rfl (by first | exact Or.inl rfl | exact Or.inr rfl) (pe_op op_fdiv (pv 0) pe_int))
 (pss_cons (ps_for PassesOwn.never rfl (pi_range1 rfl T.n_range (pa_cons (pv 1) pa_nil)) (pg_name (i:=4) ND rfl (by first | exact Or.inl rfl | exact Or.inr rfl))
  (pss_one (ps_set (i:=3) ND rfl (by first | exact Or.inl rfl | exact Or.inr rfl) (pe_op op_fdiv (pv 3) (pv 2)))))
 (pss_one (ps_if (pt_cmpR op_gt (pv 3) pe_int (nomark _))
  (pss_one (ps_ret (pe_op op_mod (pv 3) (pv 2))))
  pss_nil)))))
  pss_nil)
 (pss_cons (ps_set (i:=5) ND rfl (by first | exact Or.inl rfl | exact Or.inr rfl) (pe_op op_mod (pe_op op_mul (pe_op op_mod (pe_op op_add (pe_op op_add (pv 0) (pe_op op_mul pe_int (pv 1))) pe_int) pe_int) pe_int) pe_int))
 (pss_cons (ps_set (i:=5) ND rfl (by first | exact Or.inl rfl | exact Or.inr rfl) (pe_op op_mod (pe_op op_mul (pv 5) (pe_op op_add (pe_op op_fdiv (pv 5) pe_int) pe_int)) pe_int))
 (pss_one (ps_ret (pe_op op_mod (pe_op op_mul (pv 5) (pe_op op_add (pe_op op_fdiv (pv 5) pe_int) pe_int)) pe_int)))))),?_⟩
  obtain ⟨bp,bq⟩:=mixB_pos c
  refine ⟨fun σ' H'=>(∃ o2 o3 o4,σ'=[some (.int c),some (.int k),o2,o3,o4,none])∧Same H H'∧¬ (c % 2=0∧0 < c / 4 / mixB c ^ k.toNat),?_,?_⟩
  ·rintro σ' H' ⟨⟨o2,o3,o4,rfl⟩,e',hn⟩
   refine ⟨_,rfl,_,rfl,_,_,rfl,rfl,.inl ⟨by decide,by decide⟩,_,_,rfl,rfl,_,_,rfl,rfl,_,_,rfl,rfl,(by show (0:Int) < 2147483647; decide),_,_,rfl,rfl,.inr ⟨by decide,by decide⟩,_,_,rfl,rfl,(by show (0:Int) < 2147483647; decide),?_⟩
   refine ⟨_,rfl,_,rfl,_,_,rfl,rfl,⟨by decide,by decide⟩,_,_,rfl,rfl,_,_,rfl,rfl,.inl (mod_bnd _),_,_,rfl,rfl,(by show (0:Int) < 2147483647; decide),?_⟩
   refine ⟨_,rfl,_,rfl,_,_,rfl,rfl,⟨by decide,by decide⟩,_,_,rfl,rfl,_,_,rfl,rfl,.inl (mod_bnd _),_,_,rfl,rfl,(by show (0:Int) < 2147483647; decide),?_⟩
   have:=q H' e'
   unfold mixL at this
   rw [if_neg hn] at this
   exact this
  ·refine ⟨_,rfl,_,_,rfl,rfl,(by show (0:Int) < 2; decide),rfl,_,rfl,ite2 (fun g=>?_) (fun g=>?_)⟩
   ·have g:c % 2=0:=by
     have:=of_decide_eq_true g
     injection this
    refine ⟨_,_,rfl,rfl,⟨by decide,by decide⟩,(by show 2 ≤ sizeLine; decide),fun l H1 e1 h1 hl=>?_⟩
    have c3:0 ≤ c / 2 % 2:=Int.emod_nonneg _ (by decide)
    have c4:c / 2 % 2 < 2:=Int.emod_lt_of_pos _ (by decide)
    have hb:atI [V.int 1000,V.int ((10:Int) ^ (9:Int).toNat)] (c / 2 % 2)=some (.int (mixB c)):=by
     by_cases h:c / 2 % 2=0
     ·rw [h]
      unfold mixB
      rw [if_pos h]
      rfl
     ·have h1:c / 2 % 2=1:=by omega
      rw [h1]
      unfold mixB
      rw [if_neg h]
      rfl
    refine ⟨_,rfl,_,_,rfl,rfl,⟨by decide,by decide⟩,_,_,rfl,rfl,(by show (0:Int) < 2; decide),l,_,_,_,rfl,rfl,SqL.of hl,hb,?_⟩
    refine ⟨_,rfl,_,_,rfl,rfl,⟨by decide,by decide⟩,?_⟩
    refine ⟨_,rfl,_,rfl,by omega,by omega,for_range (lo:=0) (n:=k.toNat) (fun i σ H'=>(∃ o4,σ=[some (.int c),some (.int k),some (.int (mixB c)),some (.int (c / 4 / mixB c ^ i)),o4,none])∧H'=H1) ⟨⟨none,by rw [Int.pow_zero,Int.ediv_one]; rfl⟩,rfl⟩ ?_ ?_⟩
    ·rintro i σ H' hi ⟨⟨o4,rfl⟩,rfl⟩
     refine ⟨_,rfl,_,rfl,_,_,rfl,rfl,⟨bp,bq⟩,⟨some (.int (0 + (i:Int))),?_⟩,rfl⟩
     rw [← div_step (c / 4) (mixB c) bp i]
     rfl
    ·rintro σ H' ⟨⟨o4,rfl⟩,rfl⟩
     refine ⟨_,rfl,_,_,rfl,rfl,_,rfl,ite2 (fun g2=>?_) (fun g2=>?_)⟩
     ·have g2:=of_decide_eq_true g2
      refine ⟨_,rfl,_,rfl,_,_,rfl,rfl,bp,?_⟩
      have:=q H' e1
      unfold mixL at this
      rw [if_pos ⟨g,g2⟩] at this
      exact this
     ·exact ⟨⟨_,_,_,rfl⟩,e1,fun z=>g2 (decide_eq_true z.2)⟩
   ·exact ⟨⟨_,_,_,rfl⟩,Same.refl _,fun z=>g (decide_eq_true (show V.int (c % 2)=V.int 0 by rw [z.1]))⟩
end
end K31
set_option maxRecDepth 100000
namespace K31
open PySem L2 L2.Wy
open PyProof.Rows (boot_list boot_int boot_bool boot_tuple boot_str boot_dict boot_all)
def LS:Str:="gcfbdeaqwrtyuiopshjk"
def PE4:List (Str × Str):=[("",""),("a",""),("","zz"),("po","st")]
def nameOf (p:Str × Str) (k:Nat):Str:=p.1 ++ ⟨#[LS.cps.toList.getD k 0]⟩ ++ p.2
def names20 (p:Str × Str):List Str:=(List.range 20).map (nameOf p)
theorem names20_ok:∀ p ∈ PE4,(names20 p).Nodup∧(∀ x ∈ names20 p,isName x=true)∧¬ ("nobody":Str) ∈ names20 p:=by decide +kernel
structure NOk (ns : List Str) : Prop where
  nd : ns.Nodup
  nm : ∀ x ∈ ns, isName x = true
  nb : ¬ ("nobody" : Str) ∈ ns
  lo : 2 ≤ ns.length
  hi : ns.length ≤ 20
  gap : ns.length ≤ 7 ∨ 14 ≤ ns.length
theorem names_take (p:Str × Str) {m:Nat} (hm:m ≤ 20):(List.range m).map (nameOf p)=(names20 p).take m:=by
 unfold names20
 rw [← List.map_take,List.take_range,Nat.min_eq_left hm]
theorem names_ok {p:Str × Str} (hp:p ∈ PE4) {m:Nat} (h2:2 ≤ m) (h20:m ≤ 20) (hg:m ≤ 7 ∨ 14 ≤ m):NOk ((List.range m).map (nameOf p)):=by
 obtain ⟨a,b,c⟩:=names20_ok p hp
 have hl:((List.range m).map (nameOf p)).length=m:=by simp
 have sub:∀ x ∈ (List.range m).map (nameOf p),x ∈ names20 p:=fun x hx=>by
  rw [names_take p h20] at hx
  exact List.mem_of_mem_take hx
 refine ⟨?_,fun x hx=>b x (sub x hx),fun z=>c (sub _ z),by omega,by omega,by omega⟩
 rw [names_take p h20]
 exact a.sublist (List.take_sublist _ _)
theorem ls_at (k:Nat) (h:k < 20):atI LS.cps.toList (k:Int)=some (LS.cps.toList.getD k 0):=by
 have:∀ k:Fin 20,atI LS.cps.toList (k.val:Int)=some (LS.cps.toList.getD k.val 0):=by decide +kernel
 exact this ⟨k,h⟩
theorem pe_len:∀ p ∈ PE4,p.1.length ≤ 10∧p.2.length ≤ 10:=by decide +kernel
section
variable {P : Program} {w : World} {K : PySem.W.Frag} {mg : Str → Option Value} {base : Heap}
abbrev s_Lnames:Stmt:=top 40
theorem sc_Lnames:FnScope ["_law_first","_law_many","_law_ahead","_law_end"] ["_law_first"] (defScope s_Lnames):=⟨rfl,rfl,rfl,by decide +kernel,rfl,by decide +kernel,by decide +kernel⟩
def sp_Lnames:Sp:=fun vs H Q _=>∃ c:Int,vs=[.int c]∧∀ l H' ns,Same H H'→H l=none→NOk ns→H' l=some (.lst (ns.map V.str))→Q (.ref l) H'
def npE:List Expr:=match defBody s_Lnames with
 | _ :: _ :: .Assign _ (.Subscript (.List e _) _ _) _ :: _=>e
 | _=>[]
def npWith (es:List Expr):List Stmt:=match defBody s_Lnames with
 | s0 :: s1 :: .Assign tg (.Subscript (.List _ p) sl p2) q :: r=>s0 :: s1 :: .Assign tg (.Subscript (.List es p) sl p2) q :: r
 | b=>b
theorem ok_Lnames {f:Addr} {fd:FuncData} (F:Fun K "_law_names" "_law_names" s_Lnames f fd) (T:TxtA mg):FnOk P w K mg base CX0 1 f fd ["_law_first"] sp_Lnames:=by
 refine F.ok sc_Lnames (fun vs H Q E h=>?_) (fun cdv A outer s H vs Q E hr h=>?_)
 ·obtain ⟨c,rfl,_⟩:=h
  rfl
 ·obtain ⟨c,rfl,q⟩:=h
  have ND:=sc_Lnames.nd
  obtain ⟨es0,cs0,zs,he0,hc0,hzs,hb⟩:∃ es0 cs0 zs,es0=cs0.map cstP∧cs0.map (fun c=>(c.1.1,c.2.1.1))=zs∧zs=PE4∧defBody s_Lnames=npWith es0:=⟨npE,prsOf npE,PE4,rfl,rfl,rfl,rfl⟩
  rw [hb]
  refine ⟨_,(pss_cons (ps_set (i:=1) ND rfl (by first | exact Or.inl rfl | exact Or.inr rfl) (pe_op op_add pe_int (pe_op op_mod (pv 0) pe_int)))
 (pss_cons (ps_ifJ (pt_cmpR op_eq (pe_op op_mod (pe_op op_fdiv (pv 0) pe_int) pe_int) pe_int (nomark _))
  (pss_one (ps_set (i:=1) ND rfl (by first | exact Or.inl rfl | exact Or.inr rfl) (pe_op op_add pe_int (pe_op op_mod (pv 0) pe_int))))
  pss_nil)
 (pss_cons (ps_asg (pe_ix (ixlK K) (pe_lstS (pa_prs he0 hc0)) (pe_op op_mod (pe_op op_fdiv (pv 0) pe_int) pe_int) (fun _ _=>rfl)) (pgtK K (n:=2) rfl (pgs_cons (pg_name (i:=2) ND rfl (by first | exact Or.inl rfl | exact Or.inr rfl)) (pgs_cons (pg_name (i:=3) ND rfl (by first | exact Or.inl rfl | exact Or.inr rfl)) pgs_nil))))
 (pss_one (ps_ret (pe_comp rfl (compScope_of (nT:=1) (js:=[2,3]) (N':=["_law_k","_law_ahead","_law_end"]) rfl rfl (by kernel_rfl)) (pi_range1 rfl T.n_range (pa_cons (pv 1) pa_nil))
  (fun _ _ _ _ _=>(pg_name (i:=0) (show List.Nodup (["_law_k","_law_ahead","_law_end"]:List Str) by decide +kernel) rfl (by first | exact Or.inl rfl | exact Or.inr rfl)))
  (fun _ _ _ _ _=>pif_nil)
  (fun _ _ _ _ _=>(pe_op op_add_str (pe_op op_add_str (pv 1) (pe_ix ix_str pe_str (pv 0) (fun _ _=>rfl))) (pv 2))))))))),?_⟩
  have c1:0 ≤ c % 6:=Int.emod_nonneg _ (by decide)
  have c2:c % 6 < 6:=Int.emod_lt_of_pos _ (by decide)
  have c3:0 ≤ c % 7:=Int.emod_nonneg _ (by decide)
  have c4:c % 7 < 7:=Int.emod_lt_of_pos _ (by decide)
  have c5:0 ≤ c / 6 % 4:=Int.emod_nonneg _ (by decide)
  have c6:c / 6 % 4 < 4:=Int.emod_lt_of_pos _ (by decide)
  refine ⟨_,rfl,_,_,rfl,rfl,(by show (0:Int) < 6; decide),_,_,rfl,rfl,?_⟩
  refine ⟨fun σ' H'=>∃ m:Nat,σ'=[some (.int c),some (.int (m:Int)),none,none]∧H'=H∧2 ≤ m∧m ≤ 20∧(m ≤ 7 ∨ 14 ≤ m),?_,?_⟩
  ·rintro σ' H' ⟨m,rfl,rfl,m2,m20,mg'⟩
   refine tPrs_ok zs _ _ _ fun vs H0 e0 hvs=>?_
   rw [hzs] at hvs
   have hvl:=Paired.length hvs
   refine ⟨(by rw [hvl]; show 4 ≤ sizeLine; decide),fun l H4 e1 h1 hl=>?_⟩
   obtain ⟨v,ev,hat⟩:=atI_of (xs:=vs) (i:=c / 6 % 4) c5 (by rw [hvl]; exact c6)
   obtain ⟨p,ep,tp,rfl,htp0⟩:=Paired.at hvs ev
   have hp:p ∈ PE4:=List.mem_of_getElem? ep
   have htp:=e1 _ _ htp0
   obtain ⟨pl1,pl2⟩:=pe_len p hp
   refine ⟨_,rfl,_,_,rfl,rfl,⟨by decide,by decide⟩,_,_,rfl,rfl,(by show (0:Int) < 4; decide),l,_,_,_,rfl,rfl,SqL.of hl,hat,?_⟩
   refine ⟨tp,_,rfl,SqT.of htp,rfl,_,_,rfl,_,[],rfl,rfl,?_⟩
   have lt:LS.length ≤ sizeLine:=by decide
   have k1:∀ a:Nat,(⟨#[a]⟩:Str).length=1:=fun a=>rfl
   have sl:sizeLine=2 ^ 24:=rfl
   refine ⟨_,rfl,(m:Int),rfl,by omega,by omega,?_⟩
   rw [Int.toNat_natCast]
   refine compV_range (n:=m) (fun i=>.str (nameOf p i)) (by omega) (fun i H5 hi e5=>?_) (fun ll H5 h5 e5 hll=>?_)
   ·have hk:=ls_at i (by omega)
    refine ⟨_,rfl,_,rfl,LS,_,_,rfl,rfl,lt,(by rw [Int.zero_add]; exact hk),_,_,rfl,rfl,(by rw [k1]; omega),_,rfl,_,_,rfl,rfl,(by rw [Str.length_append,k1]; omega),rfl,Same.refl _⟩
   ·have e04:=e0.trans e1
    exact q ll H5 _ (e04.trans e5) (e04.free h5) (names_ok hp m2 m20 mg') (by rw [List.map_map]; exact hll)
  ·refine ⟨_,rfl,_,_,rfl,rfl,⟨by decide,by decide⟩,_,_,rfl,rfl,(by show (0:Int) < 9; decide),rfl,_,rfl,ite2 (fun g=>?_) (fun g=>?_)⟩
   ·refine ⟨_,rfl,_,_,rfl,rfl,(by show (0:Int) < 7; decide),_,_,rfl,rfl,(14 + c % 7).toNat,?_,rfl,by omega,by omega,by omega⟩
    rw [Int.toNat_of_nonneg (by omega)]
    rfl
   ·refine ⟨(2 + c % 6).toNat,?_,rfl,by omega,by omega,by omega⟩
    rw [Int.toNat_of_nonneg (by omega)]
    rfl
end
end K31
set_option maxRecDepth 100000
namespace K31
open PySem L2 L2.Wy
open PyProof.Rows (boot_list boot_int boot_bool boot_tuple boot_str boot_dict boot_all)
def S0:NS:=⟨[],[],0⟩
theorem name_len {x:Str} (h:isName x=true):x.length ≤ 8:=by
 unfold isName at h
 rw [Bool.and_eq_true,Bool.and_eq_true] at h
 exact of_decide_eq_true h.1.2
def POk (S:NS) (k:Kd) (x:Str):Prop:=isName x=true∧¬ x ∈ S.names∧¬ (hrB k=false∧S.home.isSome=true)∧full S k=false
theorem due_none {X:Xc} {S:NS} {x:Str} {k:Kd} (h:POk S k x):due X S x k=none:=by
 obtain ⟨h1,h2,h3,h4⟩:=h
 unfold due
 rw [if_neg (by rw [h1]; exact fun z=>nomatch z),if_neg h2,if_neg h3,if_neg (by rw [h4]; exact fun z=>nomatch z)]
theorem lis_le (S:NS):S.lis.length ≤ S.posts.length:=by
 unfold NS.lis
 rw [List.length_map]
 exact List.length_filter_le _ _
theorem lis_put (S:NS) (x:Str) (k:Kd):(S.put x k).lis=S.lis ++ (if rdB k=true then [x] else []):=by
 show ((S.posts ++ [(x,k)]).filter fun p=>rdB p.2).map (·.1)=_
 rw [List.filter_append,List.map_append]
 congr 1
 cases hb:rdB k with
 | true=>rw [if_pos rfl]; simp [hb]
 | false=>rw [if_neg (by decide)]; simp [hb]
theorem NetAt.upd {c:Cl} {H:Hp} {n dp dt l:Addr} {S:NS} {xs:List V} {o:HO} (N:NetAt c H n dp dt S) (hl:H l=some (.lst xs)):NetAt c (L2.upd H l o) n dp dt S:=by
 obtain ⟨⟨dx,h1⟩,⟨kp,h2,p2⟩,⟨kt,h3,p3⟩,h4⟩:=N
 refine ⟨⟨dx,?_⟩,⟨kp,?_,Paired.mapP p2 fun kv p ⟨a,b,dxb,eb,hb⟩=>⟨a,b,dxb,eb,?_⟩⟩,⟨kt,?_,Paired.mapP p3 fun kv p ⟨a,b,eb,hb⟩=>⟨a,b,eb,?_⟩⟩,h4⟩
 ·rw [upd_ne (ne_of h1 hl (fun z=>nomatch z))]; exact h1
 ·rw [upd_ne (ne_of h2 hl (fun z=>nomatch z))]; exact h2
 ·rw [upd_ne (ne_of hb hl (fun z=>nomatch z))]; exact hb
 ·rw [upd_ne (ne_of h3 hl (fun z=>nomatch z))]; exact h3
 ·rw [upd_ne (ne_of hb hl (fun z=>nomatch z))]; exact hb
theorem thirds {dn:List Nat} (nd:dn.Nodup) (hb:∀ j ∈ dn,j < 20):(dn.filter fun j=>decide (j % 3=2)).length ≤ 6:=by
 have:∀ j:Fin 20,j.val % 3=2→j.val ∈ [2,5,8,11,14,17]:=by decide
 refine sub_len (ys:=[2,5,8,11,14,17]) (nd.sublist List.filter_sublist) fun j hj=>?_
 obtain ⟨h1,h2⟩:=List.mem_filter.mp hj
 exact this ⟨j,hb j h1⟩ (of_decide_eq_true h2)
structure P1 (ns : List Str) (dn : List Nat) (S : NS) (hs : Option Str) : Prop where
  nms : S.names = dn.map fun j => ns.getD j ""
  ties : S.ties = []
  next : S.next = 0
  hou : ∀ p ∈ S.posts, hrB p.2 = false → hs = some p.1
  hom : S.home = hs.map fun x => (x, Kd.house)
  hse : ∀ x, hs = some x → 0 ∈ dn ∧ x = ns.getD 0 ""
  lis : ns.length < 8 ∨ S.lis.length ≤ (dn.filter fun j => decide (j % 3 = 2)).length
theorem P1.zero (ns:List Str):P1 ns [] S0 none:=⟨rfl,rfl,rfl,(fun p hp=>nomatch hp),rfl,(fun x hx=>nomatch hx),.inr (Nat.le_refl _)⟩
def hsOf (hs:Option Str) (x:Str):Kd→Option Str
 | .house=>some x
 | _=>hs
theorem P1.step {ns:List Str} {dn:List Nat} {S:NS} {hs:Option Str} {k:Nat} {kd:Kd} (h:P1 ns dn S hs) (n:NOk ns) (nd:(dn ++ [k]).Nodup) (hb:∀ j ∈ dn ++ [k],j < ns.length) (hk:kd=.house→k=0) (hl:kd=.listener→ns.length < 8 ∨ k % 3=2):
  POk S kd (ns.getD k "")∧P1 ns (dn ++ [k]) (S.put (ns.getD k "") kd) (hsOf hs (ns.getD k "") kd):=by
 obtain ⟨nd1,-,nd2⟩:=List.nodup_append.mp nd
 have hk0:k < ns.length:=hb k (by simp)
 have hkd:¬ k ∈ dn:=fun z=>nd2 k z k (by simp) rfl
 have gx:∀ {j:Nat},j < ns.length→ns.getD j ""=ns[j]!:=fun {j} hj=>by simp [hj]
 have inj:∀ {i j:Nat},i < ns.length→j < ns.length→ns.getD i ""=ns.getD j ""→i=j:=fun {i j} hi hj e=>by
  rw [List.getD_eq_getElem?_getD,List.getD_eq_getElem?_getD,List.getElem?_eq_getElem hi,List.getElem?_eq_getElem hj] at e
  exact (List.getElem_inj n.nd).mp e
 have hx:ns.getD k "" ∈ ns:=by
  rw [List.getD_eq_getElem?_getD,List.getElem?_eq_getElem hk0]
  exact List.getElem_mem _
 have hpl:S.posts.length=dn.length:=by
  have:=congrArg List.length h.nms
  unfold NS.names at this
  rwa [List.length_map,List.length_map] at this
 have dl:dn.length < ns.length:=by
  have:=sub_len nd (ys:=List.range ns.length) fun j hj=>List.mem_range.mpr (hb j hj)
  rw [List.length_append,List.length_singleton,List.length_range] at this
  omega
 have h20:=n.hi
 have hsl:=lis_le S
 have t6:=thirds nd1 (fun j hj=>Nat.lt_of_lt_of_le (hb j (by simp [hj])) h20)
 have hnew:¬ ns.getD k "" ∈ S.names:=by
  rw [h.nms]
  intro z
  obtain ⟨j,hj,e⟩:=List.mem_map.mp z
  have:=inj (hb j (by simp [hj])) hk0 e
  exact hkd (this ▸ hj)
 have hno:kd=.house→hs=none:=fun z=>by
  cases hs with
  | none=>rfl
  | some y=>exact absurd ((h.hse y rfl).1) (by rw [← hk z]; exact hkd)
 have l8:S.lis.length < 8:=by
  rcases h.lis with z | z <;> omega
 refine ⟨⟨n.nm _ hx,hnew,?_,?_⟩,?_,h.ties,h.next,?_,?_,?_,?_⟩
 ·rintro ⟨z1,z2⟩
  have:kd=.house:=by cases kd <;> first | rfl | cases z1
  rw [h.hom,hno this] at z2
  cases z2
 ·unfold full
  rw [decide_eq_false (by omega),Bool.false_or,decide_eq_false (by omega),Bool.and_false]
 ·show (S.posts ++ [(ns.getD k "",kd)]).map (·.1)=_
  rw [List.map_append,List.map_append]
  exact congrArg (· ++ [ns.getD k ""]) h.nms
 ·intro p hp hh
  rcases List.mem_append.mp hp with hp | hp
  ·have:=h.hou p hp hh
   cases kd with
   | house=>rw [hno rfl] at this; cases this
   | listener=>exact this
   | post=>exact this
  ·have:p=(ns.getD k "",kd):=by simpa using hp
   subst this
   cases kd with
   | house=>rfl
   | listener=>cases hh
   | post=>cases hh
 ·show (S.posts ++ [(ns.getD k "",kd)]).find? _=_
  have hf:=h.hom
  unfold NS.home at hf
  rw [List.find?_append,hf]
  cases kd with
  | house=>rw [hno rfl]; rfl
  | listener=>cases hs <;> rfl
  | post=>cases hs <;> rfl
 ·intro x hx2
  cases kd with
  | house=>
   have e:ns.getD k ""=x:=Option.some.inj hx2
   have:=hk rfl
   subst this
   exact ⟨by simp,e.symm⟩
  | listener=>exact ⟨List.mem_append_left _ (h.hse x hx2).1,(h.hse x hx2).2⟩
  | post=>exact ⟨List.mem_append_left _ (h.hse x hx2).1,(h.hse x hx2).2⟩
 ·rcases h.lis with z | z
  ·exact .inl z
  ·rw [lis_put,List.length_append,List.filter_append,List.length_append]
   cases kd with
   | listener=>
    rcases hl rfl with y | y
    ·exact .inl y
    ·right
     rw [if_pos (show rdB .listener=true from rfl)]
     have:([k].filter fun j=>decide (j % 3=2)).length=1:=by simp [y]
     rw [this]
     show S.lis.length + 1 ≤ _
     omega
   | house=>right; rw [if_neg (by decide)]; show S.lis.length + 0 ≤ _; omega
   | post=>right; rw [if_neg (by decide)]; show S.lis.length + 0 ≤ _; omega
section
variable {P : Program} {w : World} {K : PySem.W.Frag} {mg : Str → Option Value} {base : Heap}
def sp_Lput_in (c:Cl):Sp:=fun vs H Q _=>∃ (n dp dt:Addr) (ln:Addr) (ns:List Str) (c0:Int),vs=[.ref n,.ref ln,.int c0]∧NetAt c H n dp dt S0∧H ln=some (.lst (ns.map V.str))∧NOk ns∧
 ∀ tp ll H' S hs dn,But dp H H'→H tp=none→H ll=none→H' tp=some (.tup [oS hs,.ref ll])→H' ll=some (.lst (S.lis.map V.str))→NetAt c H' n dp dt S→dn.Perm (List.range ns.length)→P1 ns dn S hs→Q (.ref tp) H'
abbrev s_Lput_in:Stmt:=top 41
theorem sc_Lput_in:FnScope ["_law_net","_law_names_here","_law_first","_law_order","_law_k","_law_listeners","_law_house"] ["_law_net","_law_names_here","_law_first"] (defScope s_Lput_in):=⟨rfl,rfl,rfl,by decide +kernel,rfl,by decide +kernel,by decide +kernel⟩
theorem ok_Lput_in {c:Cl} {X:Xc} {f:Addr} {fd:FuncData} (F:Fun K "_law_put_in" "_law_put_in" s_Lput_in f fd) (T:TxtA mg) (D_Lmix:Df P w K mg base 1 "_law_mix" ["_law_cell","_law_k"] sp_Lmix)
  (D_Net_house:DmX P w K mg base 4 c.net "house" ["self","name"] (sp_new c X .house)) (D_Net_listener:DmX P w K mg base 4 c.net "listener" ["self","name"] (sp_new c X .listener)) (D_Net_post:DmX P w K mg base 4 c.net "post" ["self","name"] (sp_new c X .post)):FnOk P w K mg base CX0 5 f fd ["_law_net","_law_names_here","_law_first"] (sp_Lput_in c):=by
 refine F.ok sc_Lput_in (fun vs H Q E h=>?_) (fun cdv A outer s H vs Q E hr h=>?_)
 ·obtain ⟨n,dp,dt,ln,ns,c0,rfl,_⟩:=h
  rfl
 ·obtain ⟨n,dp,dt,ln,ns,c0,rfl,N0,hln,nok,q⟩:=h
  have ND:=sc_Lput_in.nd
  have n2:=nok.lo
  have n20:=nok.hi
  refine ⟨_,(pss_cons (ps_set (i:=3) ND rfl (by first | exact Or.inl rfl | exact Or.inr rfl) (pe_lstS pa_nil))
 (pss_cons (ps_for PassesOwn.never rfl (pi_range1 rfl T.n_range (pa_cons (pe_callB (lenK K) rfl T.n_len boot_len (pa_cons (pv 1) pa_nil)) pa_nil)) (pg_name (i:=4) ND rfl (by first | exact Or.inl rfl | exact Or.inr rfl))
  (pss_one (ps_expr (bmK K PySem.F.plainAttrs_list PySem.F.slot_list_insert PySem.F.type_list_insert mt_insert (pv 3) (pa_cons (pe_op op_mod (pe_callD D_Lmix (hr.mono (by decide)) rfl (pa_cons (pv 2) (pa_cons (pe_op op_add (pv 4) pe_int) pa_nil))) (pe_op op_add (pe_callB (lenK K) rfl T.n_len boot_len (pa_cons (pv 3) pa_nil)) pe_int)) (pa_cons (pv 4) pa_nil))))))
 (pss_cons (ps_set (i:=5) ND rfl (by first | exact Or.inl rfl | exact Or.inr rfl) (pe_lstS pa_nil))
 (pss_cons (ps_set (i:=6) ND rfl (by first | exact Or.inl rfl | exact Or.inr rfl) pe_non)
 (pss_cons (ps_for PassesOwn.never rfl (pilK K (pv 3)) (pg_name (i:=4) ND rfl (by first | exact Or.inl rfl | exact Or.inr rfl))
  (pss_one (ps_ifJ (PW.pt (pw_and (pt_cmpR op_eq (pv 4) pe_int (nomark _)) (pw_and1 (pt_cmpR op_gt (pe_op op_mod (pe_callD D_Lmix (hr.mono (by decide)) rfl (pa_cons (pv 2) (pa_cons pe_int pa_nil))) pe_int) pe_int (nomark _)))))
  (pss_cons (ps_expr (pe_methX on_no (pv 0) D_Net_house (hr.mono (by decide)) (pa_cons (pe_ix (ixlK K) (pv 1) (pv 4) (fun _ _=>rfl)) pa_nil)))
 (pss_one (ps_set (i:=6) ND rfl (by first | exact Or.inl rfl | exact Or.inr rfl) (pe_ix (ixlK K) (pv 1) (pv 4) (fun _ _=>rfl)))))
  (pss_one (ps_ifJ (PW.pt (pw_or (PW.pt (pw_and (pt_cmpR op_gt (pv 4) pe_int (nomark _)) (pw_and (pt_cmpR op_lt (pe_callB (lenK K) rfl T.n_len boot_len (pa_cons (pv 1) pa_nil)) pe_int (nomark _)) (pw_and1 (pt_cmpR op_gt (pe_op op_mod (pe_callD D_Lmix (hr.mono (by decide)) rfl (pa_cons (pv 2) (pa_cons (pe_op op_add (pv 4) pe_int) pa_nil))) pe_int) pe_int (nomark _)))))) (pw_or1 (PW.pt (pw_and (pt_cmpR op_eq (pe_op op_mod (pv 4) pe_int) pe_int (nomark _)) (pw_and1 (pt_cmpR op_gt (pe_callB (lenK K) rfl T.n_len boot_len (pa_cons (pv 1) pa_nil)) pe_int (nomark _))))))))
  (pss_cons (ps_expr (pe_methX on_no (pv 0) D_Net_listener (hr.mono (by decide)) (pa_cons (pe_ix (ixlK K) (pv 1) (pv 4) (fun _ _=>rfl)) pa_nil)))
 (pss_one (ps_expr (bmK K PySem.F.plainAttrs_list PySem.F.slot_list_append PySem.F.type_list_append mt_append (pv 5) (pa_cons (pe_ix (ixlK K) (pv 1) (pv 4) (fun _ _=>rfl)) pa_nil)))))
  (pss_one (ps_expr (pe_methX on_no (pv 0) D_Net_post (hr.mono (by decide)) (pa_cons (pe_ix (ixlK K) (pv 1) (pv 4) (fun _ _=>rfl)) pa_nil)))))))))
 (pss_one (ps_ret (pe_tupS (pa_cons (pv 6) (pa_cons (pv 5) pa_nil)))))))))),?_⟩
  refine ⟨(by show 0 ≤ sizeLine; decide),fun lo H1 e1 h1 hlo=>?_⟩
  have nlen:(ns.map V.str).length=ns.length:=List.length_map _
  refine ⟨_,rfl,ln,_,rfl,.inl (SqL.of (e1 _ _ hln)),_,rfl,by omega,by omega,?_⟩
  rw [nlen,Int.toNat_natCast]
  refine for_range (lo:=0) (n:=ns.length) (fun i σ H'=>(∃ o4,σ=[some (.ref n),some (.ref ln),some (.int c0),some (.ref lo),o4,none,none])∧Same H H'∧∃ os:List Nat,os.Perm (List.range i)∧H' lo=some (.lst (os.map fun j=>V.int ((j:Nat):Int))))
   ⟨⟨_,rfl⟩,e1,[],.nil,hlo⟩ ?_ ?_
  ·rintro i σ H2 hi ⟨⟨o4,rfl⟩,e2,os,hp,hlo2⟩
   have hol:os.length=i:=by have:=hp.length_eq; rwa [List.length_range] at this
   rw [show (0:Int) + (i:Int)=(i:Int) by omega]
   refine ⟨_,rfl,.inl ⟨rfl,_,SqL.of hlo2⟩,_,rfl,_,rfl,_,_,rfl,rfl,c0,_,rfl,by omega,by omega,fun H3 e3=>?_⟩
   have hlo3:=e3 _ _ hlo2
   have ol:(os.map fun j=>V.int ((j:Nat):Int)).length=i:=by rw [List.length_map,hol]
   refine ⟨_,rfl,lo,_,rfl,.inl (SqL.of hlo3),_,_,rfl,rfl,_,_,rfl,rfl,(by rw [ol]; omega),_,rfl,?_⟩
   have r0:0 ≤ mixL c0 ((i:Int) + 1) % ((((os.map fun j=>V.int ((j:Nat):Int)).length:Nat):Int) + 1):=Int.emod_nonneg _ (by omega)
   have r1:mixL c0 ((i:Int) + 1) % ((((os.map fun j=>V.int ((j:Nat):Int)).length:Nat):Int) + 1) < (((os.map fun j=>V.int ((j:Nat):Int)).length:Nat):Int) + 1:=Int.emod_lt_of_pos _ (by omega)
   obtain ⟨j,ej⟩:=Int.eq_ofNat_of_zero_le r0
   rw [ej,ol] at r1
   refine ⟨lo,_,j,.int i,rfl,by show [V.int _,V.int _]=_; rw [ej],hlo3,by rw [ol]; omega,by rw [ol]; omega,⟨_,rfl⟩,same_new (e2.trans e3) h1,os.take j ++ i :: os.drop j,?_,?_⟩
   ·rw [List.range_succ]
    refine List.perm_middle.trans ?_
    rw [List.take_append_drop]
    exact ((hp.cons i).trans (List.perm_append_singleton i _).symm)
   ·rw [upd_same,List.map_append,List.map_cons,List.map_take,List.map_drop]
  ·rintro σ H2 ⟨⟨o4,rfl⟩,e2,os,hp,hlo2⟩
   refine ⟨(by show 0 ≤ sizeLine; decide),fun ll H3 e3 h3 hll=>?_⟩
   have osn:os.Nodup:=hp.nodup_iff.mpr List.nodup_range
   have osb:∀ j ∈ os,j < ns.length:=fun j hj=>List.mem_range.mp (hp.mem_iff.mp hj)
   have e03:=e2.trans e3
   have hll0:H ll=none:=e2.free h3
   obtain ⟨kp,hkp,_⟩:=id N0.posts
   have nld:ll ≠ dp:=fun z=>by rw [z,hkp] at hll0; cases hll0
   have nod:lo ≠ dp:=fun z=>by rw [z,hkp] at h1; cases h1
   have nlo:ll ≠ lo:=fun z=>by rw [z,hlo2] at h3; cases h3
   have nnd:ln ≠ dp:=ne_of hln hkp (fun z=>nomatch z)
   have hlo3:=e3 _ _ hlo2
   refine ⟨_,rfl,lo,rfl,⟨_,SqL.of hlo3⟩,?_⟩
   refine for_list (K:=K) (xs:=os.map fun j=>V.int ((j:Nat):Int)) (fun i σ H'=>∃ (o4:Option V) (hs:Option Str) (S:NS),σ=[some (.ref n),some (.ref ln),some (.int c0),some (.ref lo),o4,some (.ref ll),some (oS hs)]∧But dp H H'∧H' lo=some (.lst (os.map fun j=>V.int ((j:Nat):Int)))∧H' ll=some (.lst (S.lis.map V.str))∧NetAt c H' n dp dt S∧P1 ns (os.take i) S hs)
    ⟨_,none,S0,rfl,But.of e03,hlo3,hll,N0.mono e03,by rw [List.take_zero]; exact P1.zero ns⟩ (fun i σ H' _ h=>by obtain ⟨_,_,_,_,_,h,_⟩:=h; exact SqL.of h) ?_ ?_
   ·rintro i v σ H4 ev ⟨o4',hs,S,rfl,b4,hlo4,hll4,N4,hP⟩
    obtain ⟨k,ek,rfl⟩:∃ k:Nat,os[i]?=some k∧v=.int (k:Int):=by
     rw [List.getElem?_map] at ev
     cases hm:os[i]? with
     | none=>rw [hm] at ev; cases ev
     | some m=>rw [hm] at ev; exact ⟨m,rfl,by simpa using ev.symm⟩
    have tk:os.take (i + 1)=os.take i ++ [k]:=by rw [List.take_add_one,ek]; rfl
    have hk:k < ns.length:=osb k (List.mem_of_getElem? ek)
    have hx:atI (ns.map V.str) (k:Int)=some (.str (ns.getD k "")):=atI_nat (by rw [List.getElem?_map,List.getD_eq_getElem?_getD,List.getElem?_eq_getElem hk]; rfl)
    obtain ⟨dx4,hN4⟩:=id N4.ins
    have hpl:S.posts.length ≤ 1000:=by
     have:=congrArg List.length hP.nms
     unfold NS.names at this
     rw [List.length_map,List.length_map,List.length_take] at this
     have h2:os.length=ns.length:=by have:=hp.length_eq; rwa [List.length_range] at this
     omega
    have hsl:=lis_le S
    have put:∀ (kd:Kd) (H5:Hp) (Q5:Hp→Prop),Same H4 H5→(kd=.house→k=0)→(kd=.listener→ns.length < 8 ∨ k % 3=2)→(∀ H6,But dp H5 H6→NetAt c H6 n dp dt (S.put (ns.getD k "") kd)→P1 ns (os.take (i + 1)) (S.put (ns.getD k "") kd) (hsOf hs (ns.getD k "") kd)→Q5 H6)→sp_new c X kd [.ref n,.str (ns.getD k "")] H5 (fun _ H6=>Q5 H6) (fun _ _ _=>False):=fun kd H5 Q5 e5 c1 c2 hQ=>by
     obtain ⟨ok,hP'⟩:=hP.step nok (k:=k) (kd:=kd) (by rw [← tk]; exact osn.sublist (List.take_sublist _ _)) (fun j hj=>by rw [← tk] at hj; exact osb j (List.mem_of_mem_take hj)) c1 c2
     rw [← tk] at hP'
     have du:=due_none (X:=X) ok
     refine ⟨n,dp,dt,S,_,rfl,N4.mono e5,Nat.le_trans (name_len ok.1) (by decide),hpl,fun r hr'=>?_,fun _ H' b' N'=>hQ H' b' N' hP'⟩
     rw [du] at hr'
     cases hr'
    have bt:∀ {H5 H6:Hp},Same H4 H5→But dp H5 H6→But dp H H6:=fun e5 b6=>(b4.trans (But.of e5)).trans b6
    have sl:∀ {H5:Hp},Same H4 H5→SqL K H5 ln (ns.map V.str):=fun e5=>SqL.of (e5 _ _ (b4 _ _ nnd hln))
    have len:(S.lis.map V.str).length < sizeLine:=by
     rw [List.length_map]
     show _ < 2 ^ 24
     omega
    have lisF:∀ H7:Hp,But dp H H7→NetAt c H7 n dp dt (S.put (ns.getD k "") .listener)→P1 ns (os.take (i + 1)) (S.put (ns.getD k "") .listener) hs→H7 lo=some (.lst (os.map fun j=>V.int ((j:Nat):Int)))→H7 ll=some (.lst (S.lis.map V.str))→
      ∃ (o4:Option V) (hs':Option Str) (S':NS),([some (.ref n),some (.ref ln),some (.int c0),some (.ref lo),some (.int (k:Int)),some (.ref ll),some (oS hs)]:St)=[some (.ref n),some (.ref ln),some (.int c0),some (.ref lo),o4,some (.ref ll),some (oS hs')]∧But dp H (L2.upd H7 ll (.lst (S.lis.map V.str ++ [.str (ns.getD k "")])))∧L2.upd H7 ll (.lst (S.lis.map V.str ++ [.str (ns.getD k "")])) lo=some (.lst (os.map fun j=>V.int ((j:Nat):Int)))∧L2.upd H7 ll (.lst (S.lis.map V.str ++ [.str (ns.getD k "")])) ll=some (.lst (S'.lis.map V.str))∧NetAt c (L2.upd H7 ll (.lst (S.lis.map V.str ++ [.str (ns.getD k "")]))) n dp dt S'∧P1 ns (os.take (i + 1)) S' hs':=fun H7 b7 N7 P7 ho7 hl7=>
     ⟨_,hs,_,rfl,(fun a o na ha=>by rw [upd_ne (ne_of_none ha hll0)]; exact b7 a o na ha),by rw [upd_ne nlo.symm]; exact ho7,by rw [upd_same,lis_put,if_pos (show rdB .listener=true from rfl),List.map_append]; rfl,N7.upd hl7,P7⟩
    have gap:=nok.gap
    refine ⟨_,fun _ _ h=>h,?_⟩
    refine ⟨_,rfl,rfl,_,rfl,ite2 (fun g0=>?_) (fun g0=>iteF ?_)⟩
    ·have k0:k=0:=by
      have:=of_decide_eq_true g0
      injection this with this
      omega
     refine ⟨_,rfl,c0,20,rfl,by decide,by decide,fun H5 e5=>⟨_,_,rfl,rfl,(by show (0:Int) < 9; decide),_,_,rfl,rfl,_,rfl,ite2 (fun g1=>?_) (fun g1=>?_)⟩⟩
     ·refine ⟨_,rfl,n,dx4,_,rfl,e5 _ _ hN4,rfl,_,rfl,_,rfl,ln,_,_,_,rfl,rfl,sl e5,hx,?_⟩
      refine put .house H5 _ e5 (fun _=>k0) (fun z=>nomatch z) fun H6 b6 N6 P6=>?_
      have b06:=bt e5 b6
      refine ⟨_,rfl,_,rfl,ln,_,_,_,rfl,rfl,SqL.of (b06 _ _ nnd hln),hx,_,some (ns.getD k ""),_,rfl,b06,b6 _ _ nod (e5 _ _ hlo4),?_,N6,P6⟩
      rw [lis_put,if_neg (by decide),List.append_nil]
      exact b6 _ _ nld (e5 _ _ hll4)
     ·refine ⟨_,fun _ _ h=>h,?_⟩
      refine ⟨_,rfl,_,_,rfl,rfl,_,rfl,?_⟩
      rw [decide_eq_false (by omega)]
      refine iteF (iteF ⟨_,rfl,_,_,rfl,rfl,(by show (0:Int) < 3; decide),rfl,_,rfl,?_⟩)
      rw [decide_eq_false (show ¬ V.int ((k:Int) % 3)=V.int 2 from fun z=>by injection z with z; omega)]
      refine iteF (iteF ⟨_,rfl,n,dx4,_,rfl,e5 _ _ hN4,rfl,_,rfl,_,rfl,ln,_,_,_,rfl,rfl,sl e5,hx,?_⟩)
      refine put .post H5 _ e5 (fun z=>nomatch z) (fun z=>nomatch z) fun H6 b6 N6 P6=>?_
      refine ⟨_,hs,_,rfl,bt e5 b6,b6 _ _ nod (e5 _ _ hlo4),?_,N6,P6⟩
      rw [lis_put,if_neg (by decide),List.append_nil]
      exact b6 _ _ nld (e5 _ _ hll4)
    ·have k1:0 < k:=by
      rcases Nat.eq_zero_or_pos k with z | z
      ·exact absurd (decide_eq_true (by rw [z]; rfl)) g0
      ·exact z
     have pst:∀ (H6:Hp),Same H4 H6→∀ H7,But dp H6 H7→NetAt c H7 n dp dt (S.put (ns.getD k "") .post)→P1 ns (os.take (i + 1)) (S.put (ns.getD k "") .post) hs→
       ∃ (o4:Option V) (hs':Option Str) (S':NS),([some (.ref n),some (.ref ln),some (.int c0),some (.ref lo),some (.int (k:Int)),some (.ref ll),some (oS hs)]:St)=[some (.ref n),some (.ref ln),some (.int c0),some (.ref lo),o4,some (.ref ll),some (oS hs')]∧But dp H H7∧H7 lo=some (.lst (os.map fun j=>V.int ((j:Nat):Int)))∧H7 ll=some (.lst (S'.lis.map V.str))∧NetAt c H7 n dp dt S'∧P1 ns (os.take (i + 1)) S' hs':=fun H6 e6 H7 b7 N7 P7=>by
      refine ⟨_,hs,_,rfl,bt e6 b7,b7 _ _ nod (e6 _ _ hlo4),?_,N7,P7⟩
      rw [lis_put,if_neg (by decide),List.append_nil]
      exact b7 _ _ nld (e6 _ _ hll4)
     refine ⟨_,fun _ _ h=>h,?_⟩
     refine ⟨_,rfl,_,_,rfl,rfl,_,rfl,?_⟩
     rw [decide_eq_true (by omega)]
     refine iteT ⟨_,rfl,ln,_,rfl,.inl (sl (Same.refl _)),_,_,rfl,rfl,_,rfl,?_⟩
     rcases gap with gp | gp
     ·rw [decide_eq_true (by rw [nlen]; omega)]
      refine iteT ⟨_,rfl,_,rfl,_,_,rfl,rfl,c0,_,rfl,by omega,by omega,fun H6 e6=>⟨_,_,rfl,rfl,(by show (0:Int) < 3; decide),_,_,rfl,rfl,_,rfl,ite2 (fun g1=>iteT ?_) (fun g1=>?_)⟩⟩
      ·refine ⟨_,rfl,n,dx4,_,rfl,e6 _ _ hN4,rfl,_,rfl,_,rfl,ln,_,_,_,rfl,rfl,sl e6,hx,?_⟩
       refine put .listener H6 _ e6 (fun z=>nomatch z) (fun _=>.inl (by omega)) fun H7 b7 N7 P7=>?_
       have hl7:=b7 _ _ nld (e6 _ _ hll4)
       exact ⟨_,rfl,.inl ⟨rfl,_,SqL.of hl7⟩,_,rfl,_,rfl,ln,_,_,_,rfl,rfl,SqL.of (bt e6 b7 _ _ nnd hln),hx,ll,_,_,rfl,rfl,hl7,len,lisF H7 (bt e6 b7) N7 P7 (b7 _ _ nod (e6 _ _ hlo4)) hl7⟩
      ·refine ⟨_,rfl,_,_,rfl,rfl,(by show (0:Int) < 3; decide),rfl,_,rfl,ite2 (fun g2=>⟨_,rfl,ln,_,rfl,.inl (sl e6),_,_,rfl,rfl,_,rfl,?_⟩) (fun g2=>?_)⟩
       ·rw [decide_eq_false (by rw [nlen]; omega)]
        refine iteF ⟨_,rfl,n,dx4,_,rfl,e6 _ _ hN4,rfl,_,rfl,_,rfl,ln,_,_,_,rfl,rfl,sl e6,hx,?_⟩
        exact put .post H6 _ e6 (fun z=>nomatch z) (fun z=>nomatch z) fun H7 b7 N7 P7=>pst H6 e6 H7 b7 N7 P7
       ·refine iteF ⟨_,rfl,n,dx4,_,rfl,e6 _ _ hN4,rfl,_,rfl,_,rfl,ln,_,_,_,rfl,rfl,sl e6,hx,?_⟩
        exact put .post H6 _ e6 (fun z=>nomatch z) (fun z=>nomatch z) fun H7 b7 N7 P7=>pst H6 e6 H7 b7 N7 P7
     ·rw [decide_eq_false (by rw [nlen]; omega)]
      refine iteF (iteF ⟨_,rfl,_,_,rfl,rfl,(by show (0:Int) < 3; decide),rfl,_,rfl,ite2 (fun g2=>⟨_,rfl,ln,_,rfl,.inl (sl (Same.refl _)),_,_,rfl,rfl,_,rfl,?_⟩) (fun g2=>?_)⟩)
      ·have k3:k % 3=2:=by
        have:=of_decide_eq_true g2
        injection this with this
        omega
       rw [decide_eq_true (by rw [nlen]; omega)]
       refine iteT ⟨_,rfl,n,dx4,_,rfl,hN4,rfl,_,rfl,_,rfl,ln,_,_,_,rfl,rfl,sl (Same.refl _),hx,?_⟩
       refine put .listener H4 _ (Same.refl _) (fun z=>nomatch z) (fun _=>.inr k3) fun H7 b7 N7 P7=>?_
       have hl7:=b7 _ _ nld hll4
       exact ⟨_,rfl,.inl ⟨rfl,_,SqL.of hl7⟩,_,rfl,_,rfl,ln,_,_,_,rfl,rfl,SqL.of (bt (Same.refl _) b7 _ _ nnd hln),hx,ll,_,_,rfl,rfl,hl7,len,lisF H7 (bt (Same.refl _) b7) N7 P7 (b7 _ _ nod hlo4) hl7⟩
      ·refine iteF ⟨_,rfl,n,dx4,_,rfl,hN4,rfl,_,rfl,_,rfl,ln,_,_,_,rfl,rfl,sl (Same.refl _),hx,?_⟩
       exact put .post H4 _ (Same.refl _) (fun z=>nomatch z) (fun z=>nomatch z) fun H7 b7 N7 P7=>pst H4 (Same.refl _) H7 b7 N7 P7
   ·rintro σ H4 ⟨o4',hs,S,rfl,b4,hlo4,hll4,N4,hP⟩
    rw [List.length_map,List.take_length] at hP
    refine ⟨_,rfl,_,rfl,(by show 2 ≤ sizeLine; decide),fun tp H5 e5 h5 htp=>?_⟩
    refine q tp ll H5 S hs os (b4.trans (But.of e5)) ?_ hll0 htp (e5 _ _ hll4) (N4.mono e5) hp hP
    cases hx:H tp with
    | none=>rfl
    | some o=>
     by_cases z:tp=dp
     ·obtain ⟨kp4,hkp4,_⟩:=id N4.posts
      rw [z,hkp4] at h5
      cases h5
     ·rw [b4 _ _ z hx] at h5
      cases h5
end
end K31
set_option maxRecDepth 100000
namespace K31
open PySem L2 L2.Wy
open PyProof.Rows (boot_list boot_int boot_bool boot_tuple boot_str boot_dict boot_all boot_max)
theorem kind_hears {S:NS} {hd y:Str} (h:∀ p ∈ S.posts,hrB p.2=false→p.1=hd) (ne:y ≠ hd):hrB (S.kind y)=true:=by
 unfold NS.kind
 cases hf:S.posts.find? (fun p=>decide (p.1=y)) with
 | none=>rfl
 | some p=>
  have m1:=List.mem_of_find?_eq_some hf
  have m2:p.1=y:=by simpa using List.find?_some hf
  show hrB p.2=true
  cases hb:hrB p.2 with
  | true=>rfl
  | false=>exact absurd (m2.symm.trans (h p m1 hb)) ne
def Up (ln:List Str) (x y:Str):Prop:=∃ u v:Nat,u < v∧ln[u]?=some x∧ln[v]?=some y
theorem at_inj {ln:List Str} (nd:ln.Nodup) {u v:Nat} {x:Str} (h1:ln[u]?=some x) (h2:ln[v]?=some x):u=v:=by
 obtain ⟨a1,b1⟩:=List.getElem?_eq_some_iff.mp h1
 obtain ⟨a2,b2⟩:=List.getElem?_eq_some_iff.mp h2
 exact (List.getElem_inj nd).mp (b1.trans b2.symm)
theorem leads_up {ln:List Str} (nd:ln.Nodup) {ts:List Tie} (h:∀ t ∈ ts,Up ln t.2.1 t.2.2.1) {y x:Str} {v:Nat} (hy:ln[v]?=some y) (L:Leads ts y x):∃ w,v ≤ w∧ln[w]?=some x:=by
 induction L with
 | refl=>exact ⟨v,Nat.le_refl _,hy⟩
 | step ht _ ih=>
  obtain ⟨w,hw,e⟩:=ih
  obtain ⟨u',v',a,b,c⟩:=h _ ht
  have:=at_inj nd e b
  subst this
  exact ⟨v',by omega,c⟩
theorem not_leads {ln:List Str} (nd:ln.Nodup) {ts:List Tie} (h:∀ t ∈ ts,Up ln t.2.1 t.2.2.1) {x y:Str} (hu:Up ln x y):¬ Leads ts y x:=fun L=>by
 obtain ⟨u,v,a,b,c⟩:=hu
 obtain ⟨w,hw,e⟩:=leads_up nd h c L
 have:=at_inj nd b e
 omega
def TriAt (H:Hp) (v:V) (t:Tie):Prop:=∃ a,v=.ref a∧H a=some (.tup [.int t.1,.str t.2.1,.str t.2.2.1])
def TrisAt (H:Hp) (l:Addr) (ts:List Tie):Prop:=∃ xs,H l=some (.lst xs)∧Paired (TriAt H) xs ts
theorem TriAt.mono {H H':Hp} {v:V} {t:Tie} (e:Same H H') (h:TriAt H v t):TriAt H' v t:=let ⟨a,q1,q2⟩:=h; ⟨a,q1,e _ _ q2⟩
theorem TrisAt.mono {H H':Hp} {l:Addr} {ts:List Tie} (e:Same H H') (h:TrisAt H l ts):TrisAt H' l ts:=let ⟨xs,q1,q2⟩:=h; ⟨xs,e _ _ q1,Paired.mapP q2 fun _ _ z=>z.mono e⟩
structure P2 (ns : List Str) (S0 S : NS) (j : Nat) : Prop where
  posts : S.posts = S0.posts
  up : ∀ t ∈ S.ties, Up ns t.2.1 t.2.2.1
  nxt : S.next = S.ties.length
  num : ∀ (i : Nat) t, S.ties[i]? = some t → t.1 = i
  cnt : S.ties.length ≤ j
theorem P1.p2 {ns:List Str} {dn:List Nat} {S:NS} {hs:Option Str} (h:P1 ns dn S hs):P2 ns S S 0:=by
 refine ⟨rfl,fun t ht=>?_,by rw [h.next,h.ties]; rfl,fun i t ht=>?_,by rw [h.ties]; exact Nat.le_refl _⟩
 ·rw [h.ties] at ht; cases ht
 ·rw [h.ties] at ht; cases ht
theorem P2.mono {ns:List Str} {S0 S:NS} {i j:Nat} (h:P2 ns S0 S i) (hij:i ≤ j):P2 ns S0 S j:=⟨h.posts,h.up,h.nxt,h.num,Nat.le_trans h.cnt hij⟩
theorem P2.lt {ns:List Str} {S0 S:NS} {j:Nat} (h:P2 ns S0 S j):∀ t ∈ S.ties,t.1 < S.next:=fun t ht=>by
 obtain ⟨i,hi⟩:=List.mem_iff_getElem?.mp ht
 have h1:=h.num i t hi
 have h2:=(List.getElem?_eq_some_iff.mp hi).1
 rw [h1,h.nxt]
 omega
theorem P2.tie {ns:List Str} {S0 S:NS} {j:Nat} {x y:Str} {d:Int} (h:P2 ns S0 S j) (u:Up ns x y):P2 ns S0 (S.tie x y d) (j + 1):=by
 refine ⟨h.posts,fun t ht=>?_,?_,fun i t ht=>?_,?_⟩
 ·rcases List.mem_append.mp ht with ht | ht
  ·exact h.up t ht
  ·have:t=(S.next,x,y,d):=by simpa using ht
   subst this
   exact u
 ·show S.next + 1=((S.ties ++ [(S.next,x,y,d)]).length:Int)
  rw [List.length_append,List.length_singleton,h.nxt]
  omega
 ·have ht:(S.ties ++ [(S.next,x,y,d)])[i]?=some t:=ht
  by_cases hi:i < S.ties.length
  ·rw [List.getElem?_append_left hi] at ht
   exact h.num i t ht
  ·have hl:=(List.getElem?_eq_some_iff.mp ht).1
   rw [List.length_append,List.length_singleton] at hl
   have:i=S.ties.length:=by omega
   subst this
   rw [List.getElem?_append_right (Nat.le_refl _),Nat.sub_self] at ht
   have:(S.next,x,y,d)=t:=by simpa using ht
   subst this
   exact h.nxt
 ·show (S.ties ++ [(S.next,x,y,d)]).length ≤ _
  rw [List.length_append,List.length_singleton]
  have:=h.cnt
  omega
theorem P1.mem {ns:List Str} {dn:List Nat} {S:NS} {hs:Option Str} (h:P1 ns dn S hs) (hp:dn.Perm (List.range ns.length)) {x:Str}:x ∈ S.names ↔ x ∈ ns:=by
 rw [h.nms]
 constructor
 ·intro z
  obtain ⟨j,hj,e⟩:=List.mem_map.mp z
  have hj:=List.mem_range.mp (hp.mem_iff.mp hj)
  rw [← e,List.getD_eq_getElem?_getD,List.getElem?_eq_getElem hj]
  exact List.getElem_mem _
 ·intro z
  obtain ⟨j,hj,e⟩:=List.getElem_of_mem z
  refine List.mem_map.mpr ⟨j,hp.mem_iff.mpr (List.mem_range.mpr hj),?_⟩
  rw [List.getD_eq_getElem?_getD,List.getElem?_eq_getElem hj]
  exact e
structure TieF (S : NS) (x y : Str) (d : Int) : Prop where
  mx : x ∈ S.names
  my : y ∈ S.names
  hear : hrB (S.kind y) = true
  no : ¬ Leads S.ties y x
  dl : isDelay d = true
theorem tie_facts {ns:List Str} {dn:List Nat} {S1 S:NS} {hs:Option Str} {j:Nat} (h:P1 ns dn S1 hs) (hp:dn.Perm (List.range ns.length)) (n:NOk ns) (h2:P2 ns S1 S j) {x y:Str} {d:Int} (u:Up ns x y) (d1:1 ≤ d) (d2:d ≤ 99):TieF S x y d:=by
 obtain ⟨a,b,ab,ha,hb⟩:=id u
 have nm:S.names=S1.names:=by
  unfold NS.names
  rw [h2.posts]
 refine ⟨by rw [nm,h.mem hp]; exact List.mem_of_getElem? ha,by rw [nm,h.mem hp]; exact List.mem_of_getElem? hb,?_,not_leads n.nd h2.up u,?_⟩
 ·refine kind_hears (hd:=ns.getD 0 "") (fun p hp hh=>?_) fun z=>?_
  ·rw [h2.posts] at hp
   exact ((h.hse _ (h.hou p hp hh)).2)
  ·have h0:ns[0]?=some y:=by
    have:0 < ns.length:=by have:=n.lo; omega
    rw [z,List.getD_eq_getElem?_getD,List.getElem?_eq_getElem this]
    rfl
   have:=at_inj n.nd hb h0
   omega
 ·unfold isDelay
  rw [decide_eq_true d1,decide_eq_true d2]
  rfl
theorem cut2_few (xs:List V):(cutV xs none (some 2)).length ≤ 2:=by
 rw [show (2:Int)=((2:Nat):Int) from rfl,cut_take,List.length_take]
 omega
theorem cut_mem {xs:List V} {lo hi:Option Int} {v:V} (h:v ∈ cutV xs lo hi):v ∈ xs:=List.mem_of_mem_drop (List.mem_of_mem_take h)
section
variable {P : Program} {w : World} {K : PySem.W.Frag} {mg : Str → Option Value} {base : Heap}
def sp_Lties (K:PySem.W.Frag) (c:Cl):Sp:=fun vs H Q _=>∃ (n dp dt ln lc:Addr) (S:NS) (ns:List Str) (dn:List Nat) (hs:Option Str) (xs:List V),vs=[.ref n,.ref ln,.ref lc]∧NetAt c H n dp dt S∧H ln=some (.lst (ns.map V.str))∧NOk ns∧P1 ns dn S hs∧dn.Perm (List.range ns.length)∧SqL K H lc xs∧(∀ v ∈ xs,∃ z,v=.int z)∧xs.length ≤ 16∧
 ∀ lt H' S',But2 n dt H H'→H lt=none→TrisAt H' lt S'.ties→NetAt c H' n dp dt S'→P2 ns S S' 40→Q (.ref lt) H'
abbrev s_Lties:Stmt:=top 42
theorem sc_Lties:FnScope ["_law_net","_law_names_here","_law_cells","_law_ties_here","_law_k","_law_low","_law_high","_law_cell","_law_one","_law_other"] ["_law_net","_law_names_here","_law_cells"] (defScope s_Lties):=⟨rfl,rfl,rfl,by decide +kernel,rfl,by decide +kernel,by decide +kernel⟩
theorem ok_Lties {c:Cl} {Y:Xt} {f:Addr} {fd:FuncData} (F:Fun K "_law_ties" "_law_ties" s_Lties f fd) (T:TxtA mg) (D_Lmix:Df P w K mg base 1 "_law_mix" ["_law_cell","_law_k"] sp_Lmix)
  (D_Net_tie:DmX P w K mg base 3 c.net "tie" ["self","one","other","delay"] (sp_tie c Y)) (D_Net_tied:DmXd P w K mg base 3 c.net "tie" ["self","one","other","delay"] [.int 1] (sp_tie c Y)):FnOk P w K mg base CX0 4 f fd ["_law_net","_law_names_here","_law_cells"] (sp_Lties K c):=by
 refine F.ok sc_Lties (fun vs H Q E h=>?_) (fun cdv A outer s H vs Q E hr h=>?_)
 ·obtain ⟨n,dp,dt,ln,lc,S,ns,dn,hs,xs,rfl,_⟩:=h
  rfl
 ·obtain ⟨n,dp,dt,ln,lc,S,ns,dn,hs,xs,rfl,N0,hln,nok,hP1,hpm,hlc,hxs,hx16,q⟩:=h
  have ND:=sc_Lties.nd
  have n2:=nok.lo
  have n20:=nok.hi
  have gap:=nok.gap
  obtain ⟨dx0,hi0⟩:=id N0.ins
  obtain ⟨kt0,hkt0,_⟩:=id N0.ties
  have nlen:(ns.map V.str).length=ns.length:=List.length_map _
  refine ⟨_,(pss_cons (ps_set (i:=3) ND rfl (by first | exact Or.inl rfl | exact Or.inr rfl) (pe_lstS pa_nil))
 (pss_cons (ps_ifJ (pt_cmpR op_gt (pe_callB (lenK K) rfl T.n_len boot_len (pa_cons (pv 1) pa_nil)) pe_int (nomark _))
  (pss_cons (ps_for PassesOwn.never rfl (pi_range1 rfl T.n_range (pa_cons (pe_op op_sub (pe_op op_mul pe_int (pe_callB (lenK K) rfl T.n_len boot_len (pa_cons (pv 1) pa_nil))) pe_int) pa_nil)) (pg_name (i:=4) ND rfl (by first | exact Or.inl rfl | exact Or.inr rfl))
  (pss_cons (ps_set (i:=5) ND rfl (by first | exact Or.inl rfl | exact Or.inr rfl) (pe_ix (ixlK K) (pv 1) (pe_op op_fdiv (pv 4) pe_int) (fun _ _=>rfl)))
 (pss_cons (ps_set (i:=6) ND rfl (by first | exact Or.inl rfl | exact Or.inr rfl) (pe_ix (ixlK K) (pv 1) (pe_op op_add (pe_op op_fdiv (pv 4) pe_int) pe_int) (fun _ _=>rfl)))
 (pss_one (ps_expr (bmK K PySem.F.plainAttrs_list PySem.F.slot_list_append PySem.F.type_list_append mt_append (pv 3) (pa_cons (pe_tupS (pa_cons (pe_methXd on_no (pv 0) D_Net_tied (hr.mono (by decide)) (pa_cons (pv 5) (pa_cons (pv 6) pa_nil))) (pa_cons (pv 5) (pa_cons (pv 6) pa_nil)))) pa_nil)))))))
 (pss_one (ps_set (i:=2) ND rfl (by first | exact Or.inl rfl | exact Or.inr rfl) (pe_slice (sllS K) (pv 2) po_none (po_some pe_int)))))
  pss_nil)
 (pss_cons (ps_for PassesOwn.never rfl (pilK K (pv 2)) (pg_name (i:=7) ND rfl (by first | exact Or.inl rfl | exact Or.inr rfl))
  (pss_cons (ps_set (i:=8) ND rfl (by first | exact Or.inl rfl | exact Or.inr rfl) (pe_op op_mod (pe_callD D_Lmix (hr.mono (by decide)) rfl (pa_cons (pv 7) (pa_cons pe_int pa_nil))) (pe_callB (lenK K) rfl T.n_len boot_len (pa_cons (pv 1) pa_nil))))
 (pss_cons (ps_set (i:=9) ND rfl (by first | exact Or.inl rfl | exact Or.inr rfl) (pe_op op_mod (pe_callD D_Lmix (hr.mono (by decide)) rfl (pa_cons (pv 7) (pa_cons pe_int pa_nil))) (pe_callB (lenK K) rfl T.n_len boot_len (pa_cons (pv 1) pa_nil))))
 (pss_one (ps_ifJ (pt_cmpR op_ne (pv 8) (pv 9) (nomark _))
  (pss_cons (ps_set (i:=5) ND rfl (by first | exact Or.inl rfl | exact Or.inr rfl) (pe_ix (ixlK K) (pv 1) (pe_callB (call_min2 rfl) rfl T.n_min boot_min (pa_cons (pv 8) (pa_cons (pv 9) pa_nil))) (fun _ _=>rfl)))
 (pss_cons (ps_set (i:=6) ND rfl (by first | exact Or.inl rfl | exact Or.inr rfl) (pe_ix (ixlK K) (pv 1) (pe_callB (call_max2 rfl) rfl T.n_max boot_max (pa_cons (pv 8) (pa_cons (pv 9) pa_nil))) (fun _ _=>rfl)))
 (pss_one (ps_expr (bmK K PySem.F.plainAttrs_list PySem.F.slot_list_append PySem.F.type_list_append mt_append (pv 3) (pa_cons (pe_tupS (pa_cons (pe_methX on_no (pv 0) D_Net_tie (hr.mono (by decide)) (pa_cons (pv 5) (pa_cons (pv 6) (pa_cons (pe_op op_add pe_int (pe_op op_mod (pe_callD D_Lmix (hr.mono (by decide)) rfl (pa_cons (pv 7) (pa_cons pe_int pa_nil))) pe_int)) pa_nil)))) (pa_cons (pv 5) (pa_cons (pv 6) pa_nil)))) pa_nil))))))
  pss_nil)))))
 (pss_one (ps_ret (pv 3)))))),?_⟩
  refine ⟨(by show 0 ≤ sizeLine; decide),fun lt H1 e1 h1 hlt=>?_⟩
  have tn:lt ≠ n:=(ne_of_none hi0 h1).symm
  have td:lt ≠ dt:=(ne_of_none hkt0 h1).symm
  have lnn:ln ≠ n:=ne_of hln hi0 (fun z=>nomatch z)
  have lnd:ln ≠ dt:=ne_of hln hkt0 (fun z=>nomatch z)
  have at_:∀ {u:Nat},u < ns.length→∃ x,ns[u]?=some x∧atI (ns.map V.str) (u:Int)=some (.str x):=fun {u} hu=>⟨ns[u],List.getElem?_eq_getElem hu,atI_nat (by rw [List.getElem?_map,List.getElem?_eq_getElem hu]; rfl)⟩
  have b2s:∀ {H5 H6:Hp},But2 n dt H H5→Same H5 H6→But2 n dt H H6:=fun b e a o na nd ha=>e _ _ (b a o na nd ha)
  have b2t:∀ {H5 H6:Hp},But2 n dt H H5→But2 n dt H5 H6→But2 n dt H H6:=fun b b' a o na nd ha=>b' a o na nd (b a o na nd ha)
  have trb:∀ {H5 H6:Hp} {ts:List Tie} {S:NS},NetAt c H5 n dp dt S→But2 n dt H5 H6→TrisAt H5 lt ts→TrisAt H6 lt ts:=fun N b ⟨ys,hy,hpy⟩=>by
   obtain ⟨dx5,hi5⟩:=id N.ins
   obtain ⟨kt5,hkt5,_⟩:=id N.ties
   exact ⟨ys,b _ _ tn td hy,Paired.mapP hpy fun _ _ ⟨a,q1,q2⟩=>⟨a,q1,b _ _ (ne_of q2 hi5 (fun z=>nomatch z)) (ne_of q2 hkt5 (fun z=>nomatch z)) q2⟩⟩
  have app:∀ {H8:Hp} {ts:List Tie} {t:Tie} {ys:List V} {tp:Addr} {S':NS},But2 n dt H H8→NetAt c H8 n dp dt S'→H8 lt=some (.lst ys)→Paired (TriAt H8) ys ts→H8 tp=some (.tup [.int t.1,.str t.2.1,.str t.2.2.1])→
    But2 n dt H (L2.upd H8 lt (.lst (ys ++ [.ref tp])))∧TrisAt (L2.upd H8 lt (.lst (ys ++ [.ref tp]))) lt (ts ++ [t])∧NetAt c (L2.upd H8 lt (.lst (ys ++ [.ref tp]))) n dp dt S':=fun {H8 ts t ys tp S'} b N hy hpy htp=>by
   have ktr:∀ {v:V} {t:Tie},TriAt H8 v t→TriAt (L2.upd H8 lt (.lst (ys ++ [.ref tp]))) v t:=fun ⟨a,q1,q2⟩=>⟨a,q1,by rw [upd_ne (ne_of q2 hy (fun z=>nomatch z))]; exact q2⟩
   refine ⟨fun a o na nd ha=>?_,⟨_,upd_same,Paired.snoc' (Paired.mapP hpy fun _ _ z=>ktr z) (ktr ⟨tp,rfl,htp⟩)⟩,N.upd hy⟩
   rw [upd_ne (ne_of_none ha h1)]
   exact b a o na nd ha
  have keepL:∀ {H':Hp},But2 n dt H H'→SqL K H' lc xs:=fun {H'} b=>by
   have nn:∀ o,H lc=some o→(∃ ys,o=.lst ys ∨ ∃ o',o=.frz o' (.lst ys))→H' lc=some o:=fun o ho hk=>by
    refine b _ _ (fun z=>?_) (fun z=>?_) ho
    ·rw [z,hi0] at ho
     cases ho
     obtain ⟨ys,hk | ⟨_,hk⟩⟩:=hk <;> cases hk
    ·rw [z,hkt0] at ho
     cases ho
     obtain ⟨ys,hk | ⟨_,hk⟩⟩:=hk <;> cases hk
   rcases hlc with (h | h) | h
   ·exact .inl (.inl (nn _ h ⟨_,.inl rfl⟩))
   ·obtain ⟨o,h⟩:=h
    exact .inl (.inr ⟨o,nn _ h ⟨_,.inr ⟨_,rfl⟩⟩⟩)
   ·exact .inr h
  have sl:∀ {H':Hp},But2 n dt H H'→SqL K H' ln (ns.map V.str):=fun b=>SqL.of (b _ _ lnn lnd hln)
  have lpos:(0:Int) < ((ns.map V.str).length:Int):=by rw [nlen]; omega
  have modn:∀ r:Int,∃ u:Nat,r % ((ns.map V.str).length:Int)=(u:Int)∧u < ns.length:=fun r=>by
   have r0:0 ≤ r % ((ns.map V.str).length:Int):=Int.emod_nonneg _ (by omega)
   have r1:r % ((ns.map V.str).length:Int) < ((ns.map V.str).length:Int):=Int.emod_lt_of_pos _ lpos
   obtain ⟨u,eu⟩:=Int.eq_ofNat_of_zero_le r0
   refine ⟨u,eu,?_⟩
   rw [eu,nlen] at r1
   omega
  have two:∀ u v:Nat,u < ns.length→v < ns.length→u ≠ v→∃ p r:Nat,p < r∧r < ns.length∧(if (v:Int) < (u:Int) then (v:Int) else (u:Int))=(p:Int)∧(if (v:Int) > (u:Int) then (v:Int) else (u:Int))=(r:Int):=fun u v hu hv guv=>by
   by_cases h:u < v
   ·exact ⟨u,v,h,hv,if_neg (by omega),if_pos (by omega)⟩
   ·exact ⟨v,u,by omega,hu,if_pos (by omega),if_neg (by omega)⟩
  have N1:=N0.mono e1
  have b1:But2 n dt H H1:=fun a o _ _ ha=>e1 _ _ ha
  refine ⟨fun σ' H'=>∃ (lc':Addr) (xs':List V) (o4 o5 o6:Option V) (S':NS) (j:Nat),σ'=[some (.ref n),some (.ref ln),some (.ref lc'),some (.ref lt),o4,o5,o6,none,none,none]∧But2 n dt H H'∧(lc'=lc∧xs'=xs ∨ H lc'=none∧lc' ≠ lt∧lc' ≠ n∧lc' ≠ dt∧H' lc'=some (.lst xs'))∧(∀ v ∈ xs',∃ z,v=.int z)∧j + xs'.length ≤ 40∧TrisAt H' lt S'.ties∧NetAt c H' n dp dt S'∧P2 ns S S' j,?_,?_⟩
  ·rintro σ' H2 ⟨lc',xs',o4,o5,o6,S2,j,rfl,b2,hlc',hxi,hj,htr,N2,hP2⟩
   have old:∀ {H':Hp},But2 n dt H H'→(∀ a o,a ≠ lt→a ≠ n→a ≠ dt→H2 a=some o→H' a=some o)→SqL K H' lc' xs':=fun {H'} b k=>by
    rcases hlc' with ⟨rfl,rfl⟩ | ⟨z1,z2,z3,z4,z5⟩
    ·exact keepL b
    ·exact SqL.of (k _ _ z2 z3 z4 z5)
   refine ⟨_,rfl,lc',rfl,⟨_,old b2 fun _ _ _ _ _ h=>h⟩,?_⟩
   refine for_list (K:=K) (xs:=xs') (fun i σ H'=>∃ (o4 o5 o6 o7 o8 o9:Option V) (S':NS),σ=[some (.ref n),some (.ref ln),some (.ref lc'),some (.ref lt),o4,o5,o6,o7,o8,o9]∧But2 n dt H H'∧(∀ a o,a ≠ lt→a ≠ n→a ≠ dt→H2 a=some o→H' a=some o)∧TrisAt H' lt S'.ties∧NetAt c H' n dp dt S'∧P2 ns S S' (j + i))
    ⟨_,_,_,_,_,_,S2,rfl,b2,fun _ _ _ _ _ h=>h,htr,N2,hP2⟩ (fun i σ H' _ h=>by obtain ⟨_,_,_,_,_,_,_,_,b,k,_⟩:=h; exact old b k) ?_ ?_
   ·rintro i v σ H3 ev ⟨o4',o5',o6',o7,o8,o9,S3,rfl,b3,k3,htr3,N3,hP3⟩
    have hi:i < xs'.length:=(List.getElem?_eq_some_iff.mp ev).1
    obtain ⟨z,rfl⟩:=hxi v (List.mem_of_getElem? ev)
    obtain ⟨u,eu,hu⟩:=modn (mixL z 1)
    obtain ⟨v,ev',hv⟩:=modn (mixL z 2)
    refine ⟨_,rfl,z,1,rfl,by decide,by decide,fun H4 e4=>⟨_,rfl,ln,_,rfl,.inl (sl (b2s b3 e4)),_,_,rfl,rfl,lpos,?_⟩⟩
    refine ⟨_,rfl,z,2,rfl,by decide,by decide,fun H5 e5=>⟨_,rfl,ln,_,rfl,.inl (sl (b2s b3 (e4.trans e5))),_,_,rfl,rfl,lpos,?_⟩⟩
    rw [show (fun i j:Int=>V.int (i % j)) (mixL z 1) ((ns.map V.str).length:Int)=V.int (u:Int) from congrArg V.int eu,show (fun i j:Int=>V.int (i % j)) (mixL z 2) ((ns.map V.str).length:Int)=V.int (v:Int) from congrArg V.int ev']
    have e45:=e4.trans e5
    have b5:=b2s b3 e45
    have N5:=N3.mono e45
    obtain ⟨ys,hy,hpy⟩:=htr3.mono e45
    obtain ⟨dx5,hN5⟩:=id N5.ins
    refine ⟨_,fun _ _ h=>h,_,rfl,_,rfl,rfl,_,rfl,ite2 (fun g=>?_) (fun g=>?_)⟩
    ·have guv:u ≠ v:=fun y=>by rw [y,decide_eq_true rfl] at g; cases g
     obtain ⟨p,r,hpr,hr',em1,em2⟩:=two u v hu hv guv
     obtain ⟨x,ex,ax⟩:=at_ (u:=p) (by omega)
     obtain ⟨y,ey,ay⟩:=at_ (u:=r) hr'
     refine ⟨_,rfl,_,rfl,_,rfl,_,_,rfl,ln,_,_,_,rfl,rfl,sl b5,(by rw [em1]; exact ax),?_⟩
     refine ⟨_,rfl,_,rfl,_,rfl,_,_,rfl,ln,_,_,_,rfl,rfl,sl b5,(by rw [em2]; exact ay),?_⟩
     refine ⟨_,rfl,.inl ⟨rfl,_,SqL.of hy⟩,_,rfl,n,dx5,_,rfl,hN5,rfl,_,rfl,_,rfl,_,rfl,z,3,rfl,by decide,by decide,fun H6 e6=>⟨_,_,rfl,rfl,(by show (0:Int) < 9; decide),_,_,rfl,rfl,?_⟩⟩
     have m9:0 ≤ mixL z 3 % 9:=Int.emod_nonneg _ (by decide)
     have m10:mixL z 3 % 9 < 9:=Int.emod_lt_of_pos _ (by decide)
     have up:Up ns x y:=⟨p,r,hpr,ex,ey⟩
     have TF:=tie_facts (d:=1 + mixL z 3 % 9) hP1 hpm nok hP3 up (by omega) (by omega)
     have cn:=hP3.cnt
     have N6:=N5.mono e6
     refine ⟨n,dp,dt,S3,x,y,1 + mixL z 3 % 9,rfl,N6,TF.mx,TF.my,by omega,hP3.lt,(fun z=>by rw [TF.hear] at z; cases z),fun _ z=>absurd z TF.no,(fun _ _ z=>by rw [TF.dl] at z; cases z),fun _ _ _ z=>by omega,fun _ _ _ _ H7 b7 N7=>?_⟩
     refine ⟨_,rfl,_,rfl,(by show 3 ≤ sizeLine; decide),fun tp H8 e8 h8 htp=>?_⟩
     have htr7:=trb N6 b7 (TrisAt.mono e6 ⟨ys,hy,hpy⟩)
     have hy8:H8 lt=some (.lst ys):=e8 _ _ (b7 _ _ tn td (e6 _ _ hy))
     obtain ⟨ys',hy',hpy'⟩:=htr7.mono e8
     obtain rfl:ys'=ys:=by rw [hy8] at hy'; injection hy' with hy'; injection hy' with hy'; exact hy'.symm
     have yl:=Paired.length hpy'
     obtain ⟨w1,w2,w3⟩:=app (t:=(S3.next,x,y,1 + mixL z 3 % 9)) (b2s (b2t (b2s b5 e6) b7) e8) (N7.mono e8) hy8 hpy' htp
     refine ⟨lt,ys',_,rfl,rfl,hy8,by rw [yl]; show _ < 2 ^ 24; omega,_,_,_,_,_,_,S3.tie x y (1 + mixL z 3 % 9),rfl,w1,fun a o na nn nd ha=>?_,w2,w3,hP3.tie up⟩
     rw [upd_ne na]
     exact e8 _ _ (b7 _ _ nn nd (e6 _ _ (e45 _ _ (k3 a o na nn nd ha))))
    ·exact ⟨_,_,_,_,_,_,S3,rfl,b5,fun a o na nn nd ha=>e45 _ _ (k3 a o na nn nd ha),⟨ys,hy,hpy⟩,N5,hP3.mono (by omega)⟩
   ·rintro σ H3 ⟨o4',o5',o6',o7,o8,o9,S3,rfl,b3,k3,htr3,N3,hP3⟩
    exact ⟨_,rfl,q lt H3 S3 b3 h1 htr3 N3 (hP3.mono hj)⟩
  ·refine ⟨_,rfl,ln,_,rfl,.inl (sl b1),_,_,rfl,rfl,_,rfl,ite2 (fun g=>?_) (fun g=>?_)⟩
   ·have g:7 < ns.length:=by have:=of_decide_eq_true g; rw [nlen] at this; omega
    refine ⟨_,rfl,ln,_,rfl,.inl (sl b1),_,_,rfl,rfl,.inl ⟨by decide,by decide⟩,_,_,rfl,rfl,_,rfl,by rw [nlen]; omega,by rw [nlen]; omega,?_⟩
    rw [nlen,show (2 * (ns.length:Int) - 2).toNat=2 * ns.length - 2 by omega]
    refine for_range (lo:=0) (n:=2 * ns.length - 2) (fun i σ H'=>∃ (o4 o5 o6:Option V) (S':NS),σ=[some (.ref n),some (.ref ln),some (.ref lc),some (.ref lt),o4,o5,o6,none,none,none]∧But2 n dt H H'∧TrisAt H' lt S'.ties∧NetAt c H' n dp dt S'∧P2 ns S S' i)
     ⟨_,_,_,S,rfl,b1,⟨[],hlt,by rw [hP1.ties]; exact .nil⟩,N1,hP1.p2⟩ ?_ ?_
    ·rintro i σ H3 hi ⟨o4',o5',o6',S3,rfl,b3,htr3,N3,hP3⟩
     obtain ⟨x,ex,ax⟩:=at_ (u:=i / 2) (by omega)
     obtain ⟨y,ey,ay⟩:=at_ (u:=i / 2 + 1) (by omega)
     rw [show (0:Int) + (i:Int)=(i:Int) by omega]
     refine ⟨_,rfl,_,rfl,_,_,rfl,rfl,⟨by decide,by decide⟩,ln,_,_,_,rfl,rfl,sl b3,(by rw [show (i:Int) / 2=((i / 2:Nat):Int) by omega]; exact ax),?_⟩
     refine ⟨_,rfl,_,rfl,_,_,rfl,rfl,⟨by decide,by decide⟩,_,_,rfl,rfl,ln,_,_,_,rfl,rfl,sl b3,(by rw [show (i:Int) / 2 + 1=((i / 2 + 1:Nat):Int) by omega]; exact ay),?_⟩
     obtain ⟨ys,hy,hpy⟩:=id htr3
     obtain ⟨dx3,hN3⟩:=id N3.ins
     have up:Up ns x y:=⟨i / 2,i / 2 + 1,by omega,ex,ey⟩
     have TF:=tie_facts (d:=1) hP1 hpm nok hP3 up (by omega) (by omega)
     have cn:=hP3.cnt
     refine ⟨_,rfl,.inl ⟨rfl,_,SqL.of hy⟩,_,rfl,n,dx3,_,rfl,hN3,rfl,_,rfl,_,rfl,?_⟩
     refine ⟨n,dp,dt,S3,x,y,1,rfl,N3,TF.mx,TF.my,by omega,hP3.lt,(fun z=>by rw [TF.hear] at z; cases z),fun _ z=>absurd z TF.no,(fun _ _ z=>by rw [TF.dl] at z; cases z),fun _ _ _ z=>by omega,fun _ _ _ _ H7 b7 N7=>?_⟩
     refine ⟨_,rfl,_,rfl,(by show 3 ≤ sizeLine; decide),fun tp H8 e8 h8 htp=>?_⟩
     have htr7:=trb N3 b7 ⟨ys,hy,hpy⟩
     have hy8:H8 lt=some (.lst ys):=e8 _ _ (b7 _ _ tn td hy)
     obtain ⟨ys',hy',hpy'⟩:=htr7.mono e8
     obtain rfl:ys'=ys:=by rw [hy8] at hy'; injection hy' with hy'; injection hy' with hy'; exact hy'.symm
     have yl:=Paired.length hpy'
     obtain ⟨w1,w2,w3⟩:=app (t:=(S3.next,x,y,(1:Int))) (b2s (b2t b3 b7) e8) (N7.mono e8) hy8 hpy' htp
     exact ⟨lt,ys',_,rfl,rfl,hy8,by rw [yl]; show _ < 2 ^ 24; omega,_,_,_,S3.tie x y 1,rfl,w1,w2,w3,hP3.tie up⟩
    ·rintro σ H3 ⟨o4',o5',o6',S3,rfl,b3,htr3,N3,hP3⟩
     refine ⟨_,rfl,_,rfl,lc,_,rfl,keepL b3,fun l2 H4 e4 h4 hl2=>?_⟩
     have n2':=cut2_few xs
     obtain ⟨dx3,hN3⟩:=id N3.ins
     obtain ⟨kt3,hkt3,_⟩:=id N3.ties
     obtain ⟨ys,hy,hpy⟩:=id htr3
     refine ⟨l2,_,_,_,_,S3,_,rfl,b2s b3 e4,.inr ⟨?_,(ne_of_none hy h4).symm,(ne_of_none hN3 h4).symm,(ne_of_none hkt3 h4).symm,hl2⟩,fun v hv=>hxs v (cut_mem hv),by omega,htr3.mono e4,N3.mono e4,hP3⟩
     cases hx:H l2 with
     | none=>rfl
     | some o=>
      have k1:l2 ≠ n:=(ne_of_none hN3 h4).symm
      have k2:l2 ≠ dt:=(ne_of_none hkt3 h4).symm
      rw [b3 _ _ k1 k2 hx] at h4
      cases h4
   ·exact ⟨lc,xs,_,_,_,S,0,rfl,b1,.inl ⟨rfl,rfl⟩,hxs,by omega,⟨[],hlt,by rw [hP1.ties]; exact .nil⟩,N1,hP1.p2⟩
end
end K31
set_option maxRecDepth 100000
namespace L2
open PySem PySem.Spec PyProof.Rows
theorem hu_of2 {A:Around} {k:Nat} (hr:Room k A):A.units + (0 + 1 + 1) < cLine:=by
 have:=hr.un
 omega
theorem hu_of4 {A:Around} {k:Nat} (hr:Room k A):A.units + 4 < cLine:=by
 have:=hr.un
 omega
end L2
namespace K31
open PySem L2 L2.Wy
open PyProof.Rows (boot_list boot_int boot_bool boot_tuple boot_str boot_dict boot_all)
structure TxtZ (K : PySem.W.Frag) : Prop where
  ll : PySem.W.kitOne K (.type "list") (.type "list") = some true
  tt : PySem.W.kitOne K (.type "tuple") (.type "tuple") = some true
theorem flat_oS (ho:Option Str):flatV (oS ho)=true:=by cases ho <;> rfl
theorem inV_there (x:Str) (ho:Option Str) (zs:List Str):inV (.str x) (oS ho :: zs.map V.str)=(decide (ho=some x) || decide (x ∈ zs)):=by
 have h:=inV_strs x zs
 unfold inV at h ⊢
 rw [List.any_cons,h]
 congr 1
 cases ho with
 | none=>rfl
 | some z=>
  show eqV (V.str z) (V.str x)=_
  rw [Bool.eq_iff_iff]
  simp [eqV]
section
variable {P : Program} {w : World} {K : PySem.W.Frag} {mg : Str → Option Value} {base : Heap}
def sp_Lcomes:Sp:=fun vs H Q _=>∃ (lt:Addr) (ts:List Tie) (ho:Option Str) (g:Str) (p:Str→Bool),vs=[.ref lt,oS ho,.str g]∧TrisAt H lt ts∧ts.length ≤ 1000∧(∀ h,ho=some h→p h=true)∧(∀ t ∈ ts,p t.2.1=true→p t.2.2.1=true)∧p g=false∧∀ H',Same H H'→Q (.bl false) H'
abbrev s_Lcomes:Stmt:=top 43
theorem sc_Lcomes:FnScope ["_law_ties_here","_law_house","_law_goal","_law_there","_law_turn","_law_number","_law_one","_law_other"] ["_law_ties_here","_law_house","_law_goal"] (defScope s_Lcomes):=⟨rfl,rfl,rfl,by decide +kernel,rfl,by decide +kernel,by decide +kernel⟩
theorem ok_Lcomes {f:Addr} {fd:FuncData} (F:Fun K "_law_comes" "_law_comes" s_Lcomes f fd) (T:TxtA mg):FnOk P w K mg base CX0 1 f fd ["_law_ties_here","_law_house","_law_goal"] sp_Lcomes:=by
 refine F.ok sc_Lcomes (fun vs H Q E h=>?_) (fun cdv A outer s H vs Q E hr h=>?_)
 ·obtain ⟨lt,ts,ho,g,p,rfl,_⟩:=h
  rfl
 ·obtain ⟨lt,ts,ho,g,p,rfl,⟨xs,hx,hp⟩,hz,ph,pc,pg,q⟩:=h
  have ND:=sc_Lcomes.nd
  have hxl:=Paired.length hp
  refine ⟨_,(pss_cons (ps_set (i:=3) ND rfl (by first | exact Or.inl rfl | exact Or.inr rfl) (pe_lstS (pa_cons (pv 1) pa_nil)))
 (pss_cons (ps_for PassesOwn.never rfl (pi_range1 rfl T.n_range (pa_cons (pe_callB (lenK K) rfl T.n_len boot_len (pa_cons (pv 0) pa_nil)) pa_nil)) (pg_name (i:=4) ND rfl (by first | exact Or.inl rfl | exact Or.inr rfl))
  (pss_one (ps_for PassesOwn.never rfl (pilK K (pv 0)) (pgtK K (n:=3) rfl (pgs_cons (pg_name (i:=5) ND rfl (by first | exact Or.inl rfl | exact Or.inr rfl)) (pgs_cons (pg_name (i:=6) ND rfl (by first | exact Or.inl rfl | exact Or.inr rfl)) (pgs_cons (pg_name (i:=7) ND rfl (by first | exact Or.inl rfl | exact Or.inr rfl)) pgs_nil))))
  (pss_one (ps_ifJ (PW.pt (pw_and (pt_cmpR (inK K) (pv 6) (pv 3) (by with_unfolding_all rfl)) (pw_and1 (pt_cmpR (notinK K) (pv 7) (pv 3) (by with_unfolding_all rfl)))))
  (pss_one (ps_expr (bmK K PySem.F.plainAttrs_list PySem.F.slot_list_append PySem.F.type_list_append mt_append (pv 3) (pa_cons (pv 7) pa_nil))))
  pss_nil)))))
 (pss_one (ps_ret (pe_and (pe_cmpR op_notN (pv 1) pe_non (nomark _)) (pe_one (pe_cmpR (inK K) (pv 2) (pv 3) (by with_unfolding_all rfl)))))))),?_⟩
  refine ⟨_,rfl,(by show 1 ≤ sizeLine; decide),fun lh H1 e1 h1 hlh=>?_⟩
  refine ⟨_,rfl,lt,_,rfl,.inl (SqL.of (e1 _ _ hx)),_,rfl,by omega,by omega,?_⟩
  rw [Int.toNat_natCast]
  refine for_range (lo:=0) (n:=xs.length) (fun i σ H'=>(∃ o4 o5 o6 o7,σ=[some (.ref lt),some (oS ho),some (.str g),some (.ref lh),o4,o5,o6,o7])∧Same H H'∧∃ zs:List Str,H' lh=some (.lst (oS ho :: zs.map V.str))∧(∀ z ∈ zs,p z=true)∧zs.length ≤ i * 1000)
   ⟨⟨_,_,_,_,rfl⟩,e1,[],hlh,(fun z hz=>nomatch hz),Nat.zero_le _⟩ ?_ ?_
  ·rintro i σ H2 hi ⟨⟨o4,o5,o6,o7,rfl⟩,e2,zs,hlh2,hzs,hzl⟩
   refine ⟨_,rfl,lt,rfl,⟨_,SqL.of (e2 _ _ hx)⟩,?_⟩
   refine for_list (K:=K) (xs:=xs) (fun j σ H'=>(∃ o4 o5 o6 o7,σ=[some (.ref lt),some (oS ho),some (.str g),some (.ref lh),o4,o5,o6,o7])∧Same H H'∧∃ zs:List Str,H' lh=some (.lst (oS ho :: zs.map V.str))∧(∀ z ∈ zs,p z=true)∧zs.length ≤ i * 1000 + j)
    ⟨⟨_,_,_,_,rfl⟩,e2,zs,hlh2,hzs,hzl⟩ (fun j σ H' _ h=>SqL.of (h.2.1 _ _ hx)) ?_ ?_
   ·rintro j v σ H3 ev ⟨⟨o4',o5',o6',o7',rfl⟩,e3,ys,hlh3,hys,hyl⟩
    obtain ⟨t,et,a,rfl,ha⟩:=Paired.at hp ev
    have hj:j < xs.length:=(List.getElem?_eq_some_iff.mp ev).1
    have htm:t ∈ ts:=List.mem_of_getElem? et
    refine ⟨a,_,rfl,SqT.of (e3 _ _ ha),rfl,_,_,rfl,_,_,rfl,_,[],rfl,rfl,?_⟩
    have fl:(oS ho :: ys.map V.str).all flatV=true:=by
     rw [List.all_cons,flat_oS,flat_strs]
     rfl
    have stay:∃ o4 o5 o6 o7,([some (.ref lt),some (oS ho),some (.str g),some (.ref lh),o4',some (.int t.1),some (.str t.2.1),some (.str t.2.2.1)]:St)=[some (.ref lt),some (oS ho),some (.str g),some (.ref lh),o4,o5,o6,o7]:=⟨_,_,_,_,rfl⟩
    refine ⟨_,fun _ _ h=>h,_,rfl,_,rfl,lh,_,rfl,.inl (SqL.of hlh3),rfl,fl,_,rfl,?_⟩
    rw [if_neg (by decide),inV_there]
    cases hb1:(decide (ho=some t.2.1) || decide (t.2.1 ∈ ys)) with
    | false=>exact iteF (iteF ⟨stay,e3,ys,hlh3,hys,by omega⟩)
    | true=>
     have pone:p t.2.1=true:=by
      rcases Bool.or_eq_true_iff.mp hb1 with z | z
      ·exact ph _ (of_decide_eq_true z)
      ·exact hys _ (of_decide_eq_true z)
     refine iteT ⟨_,rfl,_,rfl,lh,_,rfl,.inl (SqL.of hlh3),rfl,fl,_,rfl,?_⟩
     rw [if_pos rfl,inV_there]
     cases hb2:(decide (ho=some t.2.2.1) || decide (t.2.2.1 ∈ ys)) with
     | true=>exact iteF ⟨stay,e3,ys,hlh3,hys,by omega⟩
     | false=>
      have i1:i * 1000 ≤ 1000 * 1000:=Nat.mul_le_mul (by omega) (Nat.le_refl _)
      refine iteT ⟨_,rfl,.inl ⟨rfl,_,SqL.of hlh3⟩,_,rfl,lh,_,_,rfl,rfl,hlh3,?_,stay,same_new e3 h1,ys ++ [t.2.2.1],?_,fun z hz=>?_,?_⟩
      ·rw [List.length_cons,List.length_map]
       show _ < 2 ^ 24
       omega
      ·rw [upd_same,List.map_append]
       rfl
      ·rcases List.mem_append.mp hz with hz | hz
       ·exact hys z hz
       ·rw [List.mem_singleton.mp hz]
        exact pc t htm pone
      ·rw [List.length_append,List.length_singleton]
       omega
   ·rintro σ H3 ⟨⟨o4',o5',o6',o7',rfl⟩,e3,ys,hlh3,hys,hyl⟩
    refine ⟨⟨_,_,_,_,rfl⟩,e3,ys,hlh3,hys,?_⟩
    rw [Nat.succ_mul]
    omega
  ·rintro σ H2 ⟨⟨o4,o5,o6,o7,rfl⟩,e2,zs,hlh2,hzs,hzl⟩
   cases ho with
   | none=>exact ⟨_,rfl,rfl,_,rfl,iteF (q H2 e2)⟩
   | some h=>
    have fl:(oS (some h) :: zs.map V.str).all flatV=true:=by
     rw [List.all_cons,flat_oS,flat_strs]
     rfl
    refine ⟨_,rfl,rfl,_,rfl,iteT ⟨_,rfl,_,rfl,lh,_,rfl,.inl (SqL.of hlh2),rfl,fl,?_⟩⟩
    rw [if_neg (by decide),inV_there,decide_eq_false (fun z=>by have:=ph h rfl; cases z; rw [pg] at this; cases this),decide_eq_false (fun z=>by have:=hzs _ z; rw [pg] at this; cases this)]
    exact q H2 e2
def sp_Lwholes:Sp:=fun vs H Q _=>∃ (l:Addr) (ks:List Int),vs=[.ref l]∧H l=some (.lst (ks.map V.int))∧ks.length ≤ 1000∧∀ H',Same H H'→Q (.bl true) H'
abbrev s_Lwholes:Stmt:=top 44
theorem sc_Lwholes:FnScope ["_law_found"] ["_law_found"] (defScope s_Lwholes):=⟨rfl,rfl,rfl,by decide +kernel,rfl,by decide +kernel,by decide +kernel⟩
theorem ok_Lwholes {f:Addr} {fd:FuncData} (F:Fun K "_law_wholes" "_law_wholes" s_Lwholes f fd) (T:TxtA mg) (TI:TxtI K) (TZ:TxtZ K):FnOk P w K mg base CX0 1 f fd ["_law_found"] sp_Lwholes:=by
 refine F.ok sc_Lwholes (fun vs H Q E h=>?_) (fun cdv A outer s H vs Q E hr h=>?_)
 ·obtain ⟨l,ks,rfl,_⟩:=h
  rfl
 ·obtain ⟨l,ks,rfl,hl,hz,q⟩:=h
  have ND:=sc_Lwholes.nd
  refine ⟨_,(pss_cons (ps_if (pt_not (pt_val (pe_callB (isiK K) rfl T.n_isinstance boot_isinstance (pa_cons (pv 0) (pa_cons (pe_bltn (v:=.ty "list") rfl T.n_list boot_list rfl) pa_nil)))))
  (pss_one (ps_ret pe_bl))
  pss_nil)
 (pss_one (ps_ret (pe_callB (call_allB K rfl) rfl T.n_all boot_all (pa_cons (pe_comp rfl (compScope_of (nT:=1) (js:=[]) (N':=["_law_one"]) rfl rfl (by kernel_rfl)) (pilK K (pv 0))
  (fun _ _ _ _ _=>(pg_name (i:=0) (show List.Nodup (["_law_one"]:List Str) by decide +kernel) rfl (by first | exact Or.inl rfl | exact Or.inr rfl)))
  (fun _ _ _ _ _=>pif_nil)
  (fun _ _ _ _ _=>(pe_and (pe_callB (isiK K) rfl T.n_isinstance boot_isinstance (pa_cons (pv 0) (pa_cons (pe_bltn (v:=.ty "int") rfl T.n_int boot_int rfl) pa_nil))) (pe_one (pe_not (pe_callB (isiK K) rfl T.n_isinstance boot_isinstance (pa_cons (pv 0) (pa_cons (pe_bltn (v:=.ty "bool") rfl T.n_bool boot_bool rfl) pa_nil)))))))) pa_nil))))),?_⟩
  refine ⟨_,rfl,_,_,_,_,rfl,.lst hl,TZ.ll,_,rfl,iteF ?_⟩
  refine ⟨_,rfl,l,rfl,⟨_,SqL.of hl⟩,compV_list (K:=K) (fun _=>.bl true) hl (by rw [List.length_map]; exact hz) (fun i x H2 ex e2=>?_) (fun lb H2 h2 e2 hlb=>?_)⟩
  ·obtain ⟨z,ez,rfl⟩:∃ z,ks[i]?=some z∧x=.int z:=by
    rw [List.getElem?_map] at ex
    cases hm:ks[i]? with
    | none=>rw [hm] at ex; cases ex
    | some m=>rw [hm] at ex; exact ⟨m,rfl,by simpa using ex.symm⟩
   exact ⟨_,rfl,.int z,_,_,_,rfl,.int z,TI.ii,_,rfl,iteT ⟨_,rfl,.int z,_,_,_,rfl,.int z,TI.ib,_,rfl,rfl,Same.refl _⟩⟩
  ·refine ⟨lb,List.replicate ks.length true,rfl,SqL.of (by rw [hlb,List.length_map,List.map_replicate,List.map_const',List.length_range]),?_⟩
   have:(List.replicate ks.length true).all id=true:=by
    rw [List.all_eq_true]
    intro b hb
    rw [(List.mem_replicate.mp hb).2]
    rfl
   rw [this]
   exact q H2 e2
end
end K31
set_option maxRecDepth 100000
namespace K31
open PySem L2 L2.Wy
open PyProof.Rows (boot_list boot_int boot_bool boot_tuple boot_str boot_dict boot_all)
structure Path (ts ws : List Tie) (h g : Str) (f : Nat → Str) : Prop where
  fst : f 0 = h
  lst : f ws.length = g
  each : ∀ (i : Nat) t, ws[i]? = some t → t ∈ ts ∧ t.2.1 = f i ∧ t.2.2.1 = f (i + 1)
theorem wlk_path {ts ws:List Tie} {h g:Str} (W:Wlk ts h ws g):∃ f,Path ts ws h g f:=by
 induction W with
 | nil=>exact ⟨fun _=>h,rfl,rfl,fun i t e=>by simp at e⟩
 | @snoc ws t W ht ih=>
  obtain ⟨f,a,b,c⟩:=ih
  refine ⟨fun i=>if i ≤ ws.length then f i else t.2.2.1,?_,?_,fun i u e=>?_⟩
  ·simp [a]
  ·rw [List.length_append,List.length_singleton]
   show (if ws.length + 1 ≤ ws.length then f (ws.length + 1) else t.2.2.1)=t.2.2.1
   rw [if_neg (by omega)]
  ·by_cases hi:i < ws.length
   ·rw [List.getElem?_append_left hi] at e
    obtain ⟨c1,c2,c3⟩:=c i u e
    refine ⟨c1,?_,?_⟩
    ·show u.2.1=if i ≤ ws.length then f i else t.2.2.1
     rw [if_pos (by omega)]; exact c2
    ·show u.2.2.1=if i + 1 ≤ ws.length then f (i + 1) else t.2.2.1
     rw [if_pos (by omega)]; exact c3
   ·have hl:=(List.getElem?_eq_some_iff.mp e).1
    rw [List.length_append,List.length_singleton] at hl
    have:i=ws.length:=by omega
    subst this
    rw [List.getElem?_append_right (Nat.le_refl _),Nat.sub_self] at e
    have:t=u:=by simpa using e
    subst this
    refine ⟨ht,?_,?_⟩
    ·show t.2.1=if ws.length ≤ ws.length then f ws.length else t.2.2.1
     rw [if_pos (Nat.le_refl _)]; exact b.symm
    ·show t.2.2.1=if ws.length + 1 ≤ ws.length then f (ws.length + 1) else t.2.2.1
     rw [if_neg (by omega)]
theorem kept_tris {H:Hp} {xs:List V} {ts:List Tie} (hp:Paired (TriAt H) xs ts) (keep:Tie→Bool):Paired (TriAt H) (((List.range xs.length).filter fun i=>keep (ts.getD i (0,"","",0))).map fun i=>xs.getD i .non) (ts.filter keep):=by
 have hxl:=Paired.length hp
 have e:((List.range xs.length).filter fun i=>keep (ts.getD i (0,"","",0))).map (fun i=>xs.getD i .non)=((xs.zip ts).filter fun z=>keep z.2).map (·.1):=by
  have hzl:(xs.zip ts).length=xs.length:=by rw [List.length_zip]; omega
  rw [← hzl]
  exact range_filter_map (xs.zip ts) (fun z=>keep z.2) (·.1) _ _ fun j z ez=>by
   obtain ⟨q1,q2⟩:=List.getElem?_zip_eq_some.mp ez
   rw [List.getD_eq_getElem?_getD,q2,List.getD_eq_getElem?_getD,q1]
   exact ⟨rfl,rfl⟩
 rw [e]
 clear e hxl
 induction hp with
 | nil=>exact .nil
 | @cons a b l1 l2 h hp ih=>
  rw [List.zip_cons_cons,List.filter_cons,List.filter_cons]
  cases hk:keep b with
  | true=>exact .cons h ih
  | false=>exact ih
theorem only_one {ts:List Tie} (nd:Nums ts) {t:Tie} (ht:t ∈ ts):ts.filter (fun u=>decide (u.1=t.1))=[t]:=by
 induction ts with
 | nil=>cases ht
 | cons u ts ih=>
  rcases List.mem_cons.mp ht with rfl | hm
  ·rw [List.filter_cons,if_pos (by simp)]
   congr 1
   exact List.filter_eq_nil_iff.mpr fun v hv=>by have:=nd.ne hv; simp [this]
  ·have:t.1 ≠ u.1:=nd.ne hm
   rw [List.filter_cons,if_neg (by simp [Ne.symm this])]
   exact ih nd.tail hm
def tieK3 (t:Tie):List Key:=[Sum.inl t.1,Sum.inr t.2.1,Sum.inr t.2.2.1]
section
variable {P : Program} {w : World} {K : PySem.W.Frag} {mg : Str → Option Value} {base : Heap}
def sp_Lway:Sp:=fun vs H Q _=>∃ (lw ll:Addr) (ts ws:List Tie) (h g:Str) (f:Nat→Str),vs=[.ref lw,.ref ll,.str h,.str g]∧H lw=some (.lst ((nums ws).map V.int))∧TrisAt H ll ts∧Path ts ws h g f∧Nums ts∧ws ≠ []∧ws.length ≤ 1000∧ts.length ≤ 1000∧∀ H',Same H H'→Q (.bl true) H'
abbrev s_Lway:Stmt:=top 45
theorem sc_Lway:FnScope ["_law_way_here","_law_left","_law_house","_law_goal","_law_here","_law_number","_law_ends"] ["_law_way_here","_law_left","_law_house","_law_goal"] (defScope s_Lway):=⟨rfl,rfl,rfl,by decide +kernel,rfl,by decide +kernel,by decide +kernel⟩
theorem ok_Lway {f:Addr} {fd:FuncData} (F:Fun K "_law_way" "_law_way" s_Lway f fd) (T:TxtA mg) (D_Lwholes:Df P w K mg base 1 "_law_wholes" ["_law_found"] sp_Lwholes):FnOk P w K mg base CX0 2 f fd ["_law_way_here","_law_left","_law_house","_law_goal"] sp_Lway:=by
 refine F.ok sc_Lway (fun vs H Q E h=>?_) (fun cdv A outer s H vs Q E hr h=>?_)
 ·obtain ⟨lw,ll,ts,ws,h,g,f,rfl,_⟩:=h
  rfl
 ·obtain ⟨lw,ll,ts,ws,h,g,f,rfl,hlw,⟨xs,hx,hp⟩,PT,nd,wne,wl,tl,q⟩:=h
  have ND:=sc_Lway.nd
  have hxl:=Paired.length hp
  have nl:(nums ws).length=ws.length:=List.length_map _
  refine ⟨_,(pss_cons (ps_if (PW.pt (pw_or (pt_not (pt_val (pe_callD D_Lwholes (hr.mono (by decide)) rfl (pa_cons (pv 0) pa_nil)))) (pw_or1 (pt_cmpR (eqLK K eqk_int (hu_of hr)) (pv 0) (pe_lstS pa_nil) (nomark _)))))
  (pss_one (ps_ret pe_bl))
  pss_nil)
 (pss_cons (ps_set (i:=4) ND rfl (by first | exact Or.inl rfl | exact Or.inr rfl) (pv 2))
 (pss_cons (ps_for PassesOwn.never rfl (pilK K (pv 0)) (pg_name (i:=5) ND rfl (by first | exact Or.inl rfl | exact Or.inr rfl))
  (pss_cons (ps_setComp (i:=6) ND rfl rfl rfl (compScope_of (nT:=1) (js:=[5]) (N':=["_law_row","_law_number"]) rfl rfl (by kernel_rfl)) (pilK K (pv 1))
  (fun _ _ _ _ _=>(pg_name (i:=0) (show List.Nodup (["_law_row","_law_number"]:List Str) by decide +kernel) rfl (by first | exact Or.inl rfl | exact Or.inr rfl)))
  (fun _ _ _ _ _=>(pif_one (pt_cmpR op_eq (pe_ix (ixtK K) (pv 0) pe_int (fun _ _=>rfl)) (pv 1) (nomark _))))
  (fun _ _ _ _ _=>(pv 0)))
 (pss_cons (ps_if (PW.pt (pw_or (pt_cmpR (eqLK K (eqk_tup eqk_key) (hu_of2 hr)) (pv 6) (pe_lstS pa_nil) (nomark _)) (pw_or1 (pt_cmpR op_ne (pe_ix (ixtK K) (pe_ix (ixlK K) (pv 6) pe_int (fun _ _=>rfl)) pe_int (fun _ _=>rfl)) (pv 4) (nomark _)))))
  (pss_one (ps_ret pe_bl))
  pss_nil)
 (pss_one (ps_set (i:=4) ND rfl (by first | exact Or.inl rfl | exact Or.inr rfl) (pe_ix (ixtK K) (pe_ix (ixlK K) (pv 6) pe_int (fun _ _=>rfl)) pe_int (fun _ _=>rfl)))))))
 (pss_one (ps_ret (pe_cmpR op_eq (pv 4) (pv 3) (nomark _))))))),?_⟩
  refine ⟨_,rfl,lw,nums ws,rfl,hlw,by rw [nl]; exact wl,fun H1 e1=>⟨_,rfl,iteF ⟨_,rfl,(by show 0 ≤ sizeLine; decide),fun l0 H2 e2 h2 hl0=>?_⟩⟩⟩
  have e12:=e1.trans e2
  refine ⟨nums ws,[],ints_ls (e12 _ _ hlw),⟨l0,[],rfl,SqL.of hl0,.nil⟩,_,rfl,?_⟩
  rw [decide_eq_false (show ¬ nums ws=[] from fun z=>wne (List.map_eq_nil_iff.mp z))]
  refine iteF ⟨_,rfl,?_⟩
  refine ⟨_,rfl,lw,rfl,⟨_,SqL.of (e12 _ _ hlw)⟩,?_⟩
  refine for_list (K:=K) (xs:=(nums ws).map V.int) (fun i σ H'=>(∃ o5 o6,σ=[some (.ref lw),some (.ref ll),some (.str h),some (.str g),some (.str (f i)),o5,o6])∧Same H H')
   ⟨⟨none,none,by rw [PT.fst]; rfl⟩,e12⟩ (fun i σ H' _ h=>SqL.of (h.2 _ _ hlw)) ?_ ?_
  ·rintro i v σ H3 ev ⟨⟨o5,o6,rfl⟩,e3⟩
   obtain ⟨t,et,rfl⟩:∃ t,ws[i]?=some t∧v=.int t.1:=by
    unfold nums at ev
    rw [List.map_map,List.getElem?_map] at ev
    cases hm:ws[i]? with
    | none=>rw [hm] at ev; cases ev
    | some m=>rw [hm] at ev; exact ⟨m,rfl,by simpa using ev.symm⟩
   obtain ⟨tm,f1,f2⟩:=PT.each i t et
   have hx3:=e3 _ _ hx
   have hp3:Paired (TriAt H3) xs ts:=Paired.mapP hp fun _ _ z=>z.mono e3
   refine ⟨_,rfl,ll,rfl,⟨_,SqL.of hx3⟩,compG_list (K:=K) (fun j=>decide ((ts.getD j (0,"","",0)).1=t.1)) (fun j=>xs.getD j .non) hx3 (by omega) (fun j x H4 ex e4=>?_) (fun le H4 h4 e4 hle=>?_)⟩
   ·obtain ⟨u,eu,a,rfl,ha⟩:=Paired.at hp3 ex
    have eg:ts.getD j (0,"","",0)=u:=by rw [List.getD_eq_getElem?_getD,eu]; rfl
    have egx:xs.getD j .non=.ref a:=by rw [List.getD_eq_getElem?_getD,ex]; rfl
    rw [eg,egx]
    refine ⟨_,rfl,a,_,0,_,rfl,rfl,SqT.of (e4 _ _ ha),rfl,_,rfl,rfl,_,rfl,?_⟩
    by_cases hk:u.1=t.1
    ·rw [decide_eq_true (show V.int u.1=V.int t.1 by rw [hk])]
     exact iteT ⟨_,rfl,decide_eq_true hk,rfl,Same.refl _⟩
    ·rw [decide_eq_false (show ¬ V.int u.1=V.int t.1 from fun z=>hk (by injection z))]
     exact iteF ⟨decide_eq_false hk,Same.refl _⟩
   ·have hk4:=Paired.mapP (kept_tris hp3 fun u=>decide (u.1=t.1)) fun _ _ z=>z.mono e4
    rw [only_one nd tm] at hk4
    generalize ((List.range xs.length).filter fun i=>decide ((ts.getD i (0,"","",0)).1=t.1)).map (fun i=>xs.getD i .non)=es at hk4 hle
    cases hk4 with
    | cons ta tb=>
     cases tb
     obtain ⟨a,rfl,ha⟩:=ta
     refine ⟨_,rfl,(by show 0 ≤ sizeLine; decide),fun l5 H5 e5 h5 hl5=>?_⟩
     have hle5:=e5 _ _ hle
     have ha5:=e5 _ _ ha
     refine ⟨[tieK3 t],[],⟨le,_,rfl,SqL.of hle5,.cons ⟨a,_,rfl,SqT.of ha5,.cons rfl (.cons rfl (.cons rfl .nil))⟩ .nil⟩,⟨l5,[],rfl,SqL.of hl5,.nil⟩,_,rfl,?_⟩
     rw [decide_eq_false (fun z=>nomatch z)]
     refine iteF ⟨_,rfl,le,_,0,.ref a,rfl,rfl,SqL.of hle5,atI_nat (j:=0) rfl,a,_,1,_,rfl,rfl,SqT.of ha5,rfl,_,rfl,rfl,_,rfl,iteNS (by rw [f1]) ?_⟩
     refine ⟨_,rfl,le,_,0,.ref a,rfl,rfl,SqL.of hle5,atI_nat (j:=0) rfl,a,_,2,_,rfl,rfl,SqT.of ha5,rfl,⟨some (.int t.1),some (.ref le),?_⟩,e3.trans (e4.trans e5)⟩
     rw [← f2]
     rfl
  ·rintro σ H3 ⟨⟨o5,o6,rfl⟩,e3⟩
   rw [List.length_map,nl,PT.lst]
   refine ⟨_,rfl,_,rfl,rfl,?_⟩
   rw [decide_eq_true rfl]
   exact q H3 e3
end
end K31
set_option maxRecDepth 100000
namespace K31
open PySem L2 L2.Wy
open PyProof.Rows (boot_list boot_int boot_bool boot_tuple boot_str boot_dict boot_all boot_sorted boot_set boot_any)
structure RF (ts : List Tie) (ho : Option Str) (g : Str) (nm : List Str) (N : Nat) : Prop where
  parts : ∀ h g, Parts ts h g N
  ends : Ends ts nm
  hN : nm.length ≤ N
  hh : ∀ x, ho = some x → x ∈ nm
  inc : (nums ts).Pairwise (· < ·)
  many : ts.length ≤ 60
  ne : ∀ x, ho = some x → g ≠ x
structure CutF (ts : List Tie) (ho : Option Str) (g : Str) (m : Nat) (ks : List Int) (p : Str → Bool) : Prop where
  hh : ∀ h, ho = some h → p h = true
  cl : ∀ t ∈ ts, ¬ t.1 ∈ ks → p t.2.1 = true → p t.2.2.1 = true
  hg : p g = false
  lt : ks.length < m
  inc : ks.Pairwise (· < ·)
  mem : ∀ k ∈ ks, k ∈ nums ts
theorem cut_f {ts:List Tie} {ho:Option Str} {g:Str} {nm:List Str} {N m:Nat} (R:RF ts ho g nm N) (hm:1 ≤ m) {ks:List Int} (e:waysR ts ho g N m=.inl ks):∃ p,CutF ts ho g m ks p:=by
 cases ho with
 | none=>
  have e:([]:List Int)=ks:=Sum.inl.inj e
  subst e
  exact ⟨fun _=>false,(fun h z=>nomatch z),(fun t _ _ z=>nomatch z),rfl,hm,.nil,fun k hk=>nomatch hk⟩
 | some h=>
  rw [waysR_some] at e
  cases hw:waysF ts (some h) g N m [] with
  | inr U=>rw [hw] at e; cases e
  | inl ks'=>
   rw [hw] at e
   have e:ks'=ks:=Sum.inl.inj e
   subst e
   obtain ⟨i,V,p,hi,_,_,C,el⟩:=(waysF_ok (g:=g) (R.parts h g).nd R.ends (R.hh h rfl) R.hN m [] ((0:Nat):Int) (flow_nil ts h g) List.nodup_nil).2 ks' hw
   refine ⟨p,fun x z=>by cases z; exact C.hh,fun t ht hk hp=>?_,C.hg,by omega,?_,fun k hk=>?_⟩
   ·cases hq:p t.2.2.1 with
    | true=>rfl
    | false=>
     refine absurd ?_ hk
     rw [C.ks]
     exact List.mem_map_of_mem (f:=(·.1)) (show t ∈ ts.filter (cutB p) from List.mem_filter.mpr ⟨ht,by unfold cutB; rw [hp,hq]; rfl⟩)
   ·rw [C.ks]
    exact R.inc.sublist ((List.filter_sublist).map _)
   ·rw [C.ks] at hk
    obtain ⟨t,ht,rfl⟩:=List.mem_map.mp hk
    exact List.mem_map_of_mem (f:=(·.1)) (List.mem_filter.mp ht).1
structure WayF (ts : List Tie) (h g : Str) (m : Nat) (wss : List (List Tie)) : Prop where
  len : wss.length = m
  each : ∀ ws ∈ wss, ws ≠ [] ∧ ws.length ≤ 1000 ∧ ∃ f, Path ts ws h g f
  nd : (wss.map nums).flatten.Nodup
  few : (wss.map nums).flatten.length ≤ 60
theorem way_f {ts:List Tie} {ho:Option Str} {g:Str} {nm:List Str} {N m:Nat} (R:RF ts ho g nm N) {vss:List (List Int)} (e:waysR ts ho g N m=.inr vss):∃ h wss,ho=some h∧vss=wss.map nums∧WayF ts h g m wss:=by
 cases ho with
 | none=>cases e
 | some h=>
  rw [waysR_some] at e
  cases hw:waysF ts (some h) g N m [] with
  | inl ks=>rw [hw] at e; cases e
  | inr U=>
   rw [hw] at e
   have e:=Sum.inr.inj e
   obtain ⟨rk,hr1,hr2⟩:=(R.parts h g).rk
   have nd:=(R.parts h g).nd
   obtain ⟨FU,_⟩:=(waysF_ok (g:=g) nd R.ends (R.hh h rfl) R.hN m [] ((0:Nat):Int) (flow_nil ts h g) List.nodup_nil).1 U hw
   obtain ⟨wss,ew,wl,hwk,hnd⟩:=partF_ok nd hr1 hr2 m (inU U) (by simpa using FU)
   have few:=(R.parts h g).few
   refine ⟨h,wss,rfl,e.symm.trans ew,wl,fun ws hws=>⟨fun z=>?_,?_,?_⟩,hnd,?_⟩
   ·have W:=hwk ws hws
    rw [z] at W
    generalize hx:([]:List Tie)=vs at W
    cases W with
    | nil=>exact R.ne _ rfl rfl
    | snoc _ _=>exact absurd hx (by simp)
   ·have up:=(hwk ws hws).up (rk:=rk) fun t ht=>hr1 t (List.mem_filter.mp ht).1
    have:=hr2 g
    omega
   ·obtain ⟨f,PF⟩:=wlk_path (hwk ws hws)
    exact ⟨f,PF.fst,PF.lst,fun i t et=>⟨(List.mem_filter.mp (PF.each i t et).1).1,(PF.each i t et).2⟩⟩
   ·have:(wss.map nums).flatten.length ≤ (nums ts).length:=sub_len hnd fun k hk=>by
     obtain ⟨l,hl1,hl2⟩:=List.mem_flatten.mp hk
     obtain ⟨ws,hws,rfl⟩:=List.mem_map.mp hl1
     obtain ⟨t,ht,rfl⟩:=List.mem_map.mp hl2
     exact List.mem_map_of_mem (f:=(·.1)) (List.mem_filter.mp ((hwk ws hws).sub t ht)).1
    have e2:(nums ts).length=ts.length:=List.length_map _
    have:=R.many
    omega
section
variable {P : Program} {w : World} {K : PySem.W.Frag} {mg : Str → Option Value} {base : Heap}
def sp_Lright:Sp:=fun vs H Q _=>∃ (v:V) (ll:Addr) (H0:Hp) (ts:List Tie) (ho:Option Str) (g:Str) (nm:List Str) (N m:Nat),vs=[v,.ref ll,oS ho,.str g,.int m]∧WaysV H0 H v (waysR ts ho g N m)∧TrisAt H ll ts∧RF ts ho g nm N∧1 ≤ m∧m ≤ 1000∧∀ H',Same H H'→Q (.bl true) H'
abbrev s_Lright:Stmt:=top 46
theorem sc_Lright:FnScope ["_law_found","_law_left","_law_house","_law_goal","_law_many","_law_some","_law_way_here"] ["_law_found","_law_left","_law_house","_law_goal","_law_many"] (defScope s_Lright):=⟨rfl,rfl,rfl,by decide +kernel,rfl,by decide +kernel,by decide +kernel⟩
theorem ok_Lright {f:Addr} {fd:FuncData} (F:Fun K "_law_right" "_law_right" s_Lright f fd) (T:TxtA mg) (TZ:TxtZ K) (D_Lwholes:Df P w K mg base 1 "_law_wholes" ["_law_found"] sp_Lwholes) (D_Lway:Df P w K mg base 2 "_law_way" ["_law_way_here","_law_left","_law_house","_law_goal"] sp_Lway) (D_Lcomes:Df P w K mg base 1 "_law_comes" ["_law_ties_here","_law_house","_law_goal"] sp_Lcomes):FnOk P w K mg base CX0 3 f fd ["_law_found","_law_left","_law_house","_law_goal","_law_many"] sp_Lright:=by
 refine F.ok sc_Lright (fun vs H Q E h=>?_) (fun cdv A outer s H vs Q E hr h=>?_)
 ·obtain ⟨v,ll,H0,ts,ho,g,nm,N,m,rfl,_⟩:=h
  rfl
 ·obtain ⟨v,ll,H0,ts,ho,g,nm,N,m,rfl,hv,htr,R,hm1,hm,q⟩:=h
  have ND:=sc_Lright.nd
  have many:=R.many
  refine ⟨_,(pss_cons (ps_if (PW.pt (pw_or (pt_not (pt_val (pe_callB (isiK K) rfl T.n_isinstance boot_isinstance (pa_cons (pv 0) (pa_cons (pe_bltn (v:=.ty "tuple") rfl T.n_tuple boot_tuple rfl) pa_nil))))) (pw_or (pt_cmpR op_ne (pe_callB (lenK K) rfl T.n_len boot_len (pa_cons (pv 0) pa_nil)) pe_int (nomark _)) (pw_or1 (pt_not (pt_val (pe_callB (isiK K) rfl T.n_isinstance boot_isinstance (pa_cons (pe_ix (ixtK K) (pv 0) pe_int (fun _ _=>rfl)) (pa_cons (pe_bltn (v:=.ty "list") rfl T.n_list boot_list rfl) pa_nil)))))))))
  (pss_one (ps_ret pe_bl))
  pss_nil)
 (pss_cons (ps_if (pt_cmpR op_eq (pe_ix (ixtK K) (pv 0) pe_int (fun _ _=>rfl)) pe_str (nomark _))
  (pss_cons (ps_set (i:=5) ND rfl (by first | exact Or.inl rfl | exact Or.inr rfl) (pe_lstS pa_nil))
 (pss_cons (ps_for PassesOwn.never rfl (pilK K (pe_ix (ixtK K) (pv 0) pe_int (fun _ _=>rfl))) (pg_name (i:=6) ND rfl (by first | exact Or.inl rfl | exact Or.inr rfl))
  (pss_cons (ps_if (pt_not (pt_val (pe_callD D_Lway (hr.mono (by decide)) rfl (pa_cons (pv 6) (pa_cons (pv 1) (pa_cons (pv 2) (pa_cons (pv 3) pa_nil)))))))
  (pss_one (ps_ret pe_bl))
  pss_nil)
 (pss_one (ps_set (i:=5) ND rfl (by first | exact Or.inl rfl | exact Or.inr rfl) (pe_op op_catS (pv 5) (pv 6))))))
 (pss_one (ps_ret (pe_and (pe_cmpR op_eq (pe_callB (lenK K) rfl T.n_len boot_len (pa_cons (pe_ix (ixtK K) (pv 0) pe_int (fun _ _=>rfl)) pa_nil)) (pv 4) (nomark _)) (pe_one (pe_cmpR op_eq (pe_callB (lenK K) rfl T.n_len boot_len (pa_cons (pv 5) pa_nil)) (pe_callB call_len_set rfl T.n_len boot_len (pa_cons (pe_callTy (call_set_l rfl) rfl T.n_set boot_set (pa_cons (pv 5) pa_nil)) pa_nil)) (nomark _))))))))
  pss_nil)
 (pss_cons (ps_if (PW.pt (pw_or (pt_cmpR op_ne (pe_ix (ixtK K) (pv 0) pe_int (fun _ _=>rfl)) pe_str (nomark _)) (pw_or (pt_not (pt_val (pe_callD D_Lwholes (hr.mono (by decide)) rfl (pa_cons (pe_ix (ixtK K) (pv 0) pe_int (fun _ _=>rfl)) pa_nil)))) (pw_or1 (pt_cmpR op_ge (pe_callB (lenK K) rfl T.n_len boot_len (pa_cons (pe_ix (ixtK K) (pv 0) pe_int (fun _ _=>rfl)) pa_nil)) (pv 4) (nomark _))))))
  (pss_one (ps_ret pe_bl))
  pss_nil)
 (pss_cons (ps_if (PW.pt (pw_or (pt_cmpR (neLK K eqk_int (hu_of hr)) (pe_ix (ixtK K) (pv 0) pe_int (fun _ _=>rfl)) (pe_callB (call_sorted_set rfl) rfl T.n_sorted boot_sorted (pa_cons (pe_callTy (call_set_l rfl) rfl T.n_set boot_set (pa_cons (pe_ix (ixtK K) (pv 0) pe_int (fun _ _=>rfl)) pa_nil)) pa_nil)) (nomark _)) (pw_or1 (pt_val (pe_callB (call_anyB K rfl) rfl T.n_any boot_any (pa_cons (pe_comp rfl (compScope_of (nT:=1) (js:=[1]) (N':=["_law_k","_law_left"]) rfl rfl (by kernel_rfl)) (pilK K (pe_ix (ixtK K) (pv 0) pe_int (fun _ _=>rfl)))
  (fun _ _ _ _ _=>(pg_name (i:=0) (show List.Nodup (["_law_k","_law_left"]:List Str) by decide +kernel) rfl (by first | exact Or.inl rfl | exact Or.inr rfl)))
  (fun _ _ _ _ _=>pif_nil)
  (fun _ _ _ _ _=>(pe_cmpR (notinK K) (pv 0) (pe_comp rfl (compScope_of (nT:=1) (js:=[]) (N':=["_law_row"]) rfl rfl (by kernel_rfl)) (pilK K (pv 1))
  (fun _ _ _ _ _=>(pg_name (i:=0) (show List.Nodup (["_law_row"]:List Str) by decide +kernel) rfl (by first | exact Or.inl rfl | exact Or.inr rfl)))
  (fun _ _ _ _ _=>pif_nil)
  (fun _ _ _ _ _=>(pe_ix (ixtK K) (pv 0) pe_int (fun _ _=>rfl)))) (by with_unfolding_all rfl)))) pa_nil))))))
  (pss_one (ps_ret pe_bl))
  pss_nil)
 (pss_one (ps_ret (pe_not (pe_callD D_Lcomes (hr.mono (by decide)) rfl (pa_cons (pe_comp rfl (compScope_of (nT:=1) (js:=[0]) (N':=["_law_row","_law_found"]) rfl rfl (by kernel_rfl)) (pilK K (pv 1))
  (fun _ _ _ _ _=>(pg_name (i:=0) (show List.Nodup (["_law_row","_law_found"]:List Str) by decide +kernel) rfl (by first | exact Or.inl rfl | exact Or.inr rfl)))
  (fun _ _ _ _ _=>(pif_one (pt_cmpR (notinK K) (pe_ix (ixtK K) (pv 0) pe_int (fun _ _=>rfl)) (pe_ix (ixtK K) (pv 1) pe_int (fun _ _=>rfl)) (by with_unfolding_all rfl))))
  (fun _ _ _ _ _=>(pv 0))) (pa_cons (pv 2) (pa_cons (pv 3) pa_nil))))))))))),?_⟩
  cases hw:waysR ts ho g N m with
  | inr vss=>
   rw [hw] at hv
   obtain ⟨h,wss,rfl,rfl,WF⟩:=way_f R hw
   obtain ⟨tp,lo,rfl,_,_,htp,xs,hlo,hpx⟩:=hv
   have hxl:=Paired.length hpx
   rw [List.length_map,WF.len] at hxl
   refine ⟨_,rfl,_,_,_,_,rfl,.tup htp,TZ.tt,_,rfl,iteF ⟨_,rfl,tp,_,rfl,.inr (SqT.of htp),rfl,_,rfl,iteNS rfl ⟨_,rfl,tp,_,1,_,rfl,rfl,SqT.of htp,rfl,_,_,_,_,rfl,.lst hlo,TZ.ll,_,rfl,iteF ?_⟩⟩⟩
   refine ⟨_,rfl,tp,_,0,_,rfl,rfl,SqT.of htp,rfl,rfl,_,rfl,?_⟩
   rw [decide_eq_true rfl]
   refine iteT ⟨(by show 0 ≤ sizeLine; decide),fun ls H1 e1 h1 hls=>?_⟩
   refine ⟨_,rfl,tp,_,1,_,rfl,rfl,SqT.of (e1 _ _ htp),rfl,lo,rfl,⟨_,SqL.of (e1 _ _ hlo)⟩,?_⟩
   refine for_list (K:=K) (xs:=xs) (fun i σ H'=>∃ (ls:Addr) (o6:Option V),σ=[some (.ref tp),some (.ref ll),some (.str h),some (.str g),some (.int m),some (.ref ls),o6]∧Same H H'∧H' ls=some (.lst ((((wss.take i).map nums).flatten).map V.int)))
    ⟨ls,none,rfl,e1,hls⟩ (fun i σ H' _ h=>by obtain ⟨_,_,_,e,_⟩:=h; exact SqL.of (e _ _ hlo)) ?_ ?_
   ·rintro i v σ H2 ev ⟨ls2,o6,rfl,e2,hls2⟩
    obtain ⟨ks,ek,a,rfl,_,_,ha⟩:=Paired.at hpx ev
    obtain ⟨ws,ew,rfl⟩:∃ ws,wss[i]?=some ws∧ks=nums ws:=by
     rw [List.getElem?_map] at ek
     cases hm:wss[i]? with
     | none=>rw [hm] at ek; cases ek
     | some x=>rw [hm] at ek; exact ⟨x,rfl,by simpa using ek.symm⟩
    obtain ⟨wne,wl,f,PF⟩:=WF.each ws (List.mem_of_getElem? ew)
    have ha2:=e2 _ _ ha
    refine ⟨_,rfl,_,rfl,_,rfl,_,rfl,a,ll,ts,ws,h,g,f,rfl,ha2,htr.mono e2,PF,(R.parts h g).nd,wne,wl,by omega,fun H3 e3=>⟨_,rfl,iteF ?_⟩⟩
    have tk:wss.take (i + 1)=wss.take i ++ [ws]:=by rw [List.take_add_one,ew]; rfl
    have fl:(((wss.take i).map nums).flatten).length + (nums ws).length ≤ 60:=by
     have h1:((wss.take (i + 1)).map nums).flatten.length ≤ ((wss.map nums).flatten).length:=by
      have h2:wss.map nums=(wss.take (i + 1)).map nums ++ (wss.drop (i + 1)).map nums:=by rw [← List.map_append,List.take_append_drop]
      rw [h2,List.flatten_append,List.length_append]
      omega
     rw [tk,List.map_append,List.flatten_append,List.length_append] at h1
     have:([ws].map nums).flatten=nums ws:=by simp
     rw [this] at h1
     have:=WF.few
     omega
    refine ⟨_,rfl,_,rfl,ls2,a,_,_,rfl,rfl,e3 _ _ hls2,e3 _ _ ha2,by rw [List.length_map,List.length_map]; show _ ≤ 2 ^ 24; omega,fun l4 H4 e4 h4 hl4=>?_⟩
    refine ⟨l4,_,rfl,e2.trans (e3.trans e4),?_⟩
    rw [hl4,tk,List.map_append,List.flatten_append,List.map_append]
    simp
   ·rintro σ H2 ⟨ls2,o6,rfl,e2,hls2⟩
    rw [hxl,← WF.len,List.take_length] at hls2
    have few:=WF.few
    refine ⟨_,rfl,tp,_,1,_,rfl,rfl,SqT.of (e2 _ _ htp),rfl,lo,_,rfl,.inl (SqL.of (e2 _ _ hlo)),_,rfl,rfl,_,rfl,?_⟩
    rw [decide_eq_true (show V.int (xs.length:Nat)=V.int (m:Nat) by rw [hxl])]
    refine iteT ⟨_,rfl,ls2,_,rfl,.inl (SqL.of hls2),_,rfl,ls2,_,rfl,hls2,by omega,fun r hr=>⟨r,_,rfl,upd_same,?_,rfl,?_⟩⟩
    ·rw [Sk.dedup_self WF.nd]; omega
    ·rw [decide_eq_true (show V.int (((wss.map nums).flatten.map V.int).length:Nat)=V.int ((Sk.dedupI (wss.map nums).flatten).length:Nat) by rw [Sk.dedup_self WF.nd,List.length_map])]
     exact q _ (same_upd e2 hr)
  | inl ks=>
   rw [hw] at hv
   obtain ⟨p,CF⟩:=cut_f R hm1 hw
   obtain ⟨tp,lo,rfl,_,_,htp,hlo⟩:=hv
   have kl:ks.length ≤ 60:=by
    have h1:ks.length ≤ (nums ts).length:=sub_len (CF.inc.imp fun h=>Int.ne_of_lt h) CF.mem
    have e2:(nums ts).length=ts.length:=List.length_map _
    omega
   refine ⟨_,rfl,_,_,_,_,rfl,.tup htp,TZ.tt,_,rfl,iteF ⟨_,rfl,tp,_,rfl,.inr (SqT.of htp),rfl,_,rfl,iteNS rfl ⟨_,rfl,tp,_,1,_,rfl,rfl,SqT.of htp,rfl,_,_,_,_,rfl,.lst hlo,TZ.ll,_,rfl,iteF ?_⟩⟩⟩
   refine ⟨_,rfl,tp,_,0,_,rfl,rfl,SqT.of htp,rfl,rfl,_,rfl,?_⟩
   rw [decide_eq_false (show ¬ V.str "cut"=V.str "ways" from fun z=>by injection z with z; exact absurd z (by decide))]
   refine iteF ⟨_,rfl,tp,_,0,_,rfl,rfl,SqT.of htp,rfl,rfl,_,rfl,iteNS rfl ⟨_,rfl,tp,_,1,_,rfl,rfl,SqT.of htp,rfl,lo,ks,rfl,hlo,by omega,fun H1 e1=>⟨_,rfl,iteF ⟨_,rfl,tp,_,1,_,rfl,rfl,SqT.of (e1 _ _ htp),rfl,lo,_,rfl,.inl (SqL.of (e1 _ _ hlo)),_,rfl,_,_,rfl,rfl,_,rfl,?_⟩⟩⟩⟩
   rw [decide_eq_false (by rw [List.length_map]; have:=CF.lt; omega)]
   have htp1:=e1 _ _ htp
   have hlo1:=e1 _ _ hlo
   refine iteF ⟨_,rfl,tp,_,1,_,rfl,rfl,SqT.of htp1,rfl,_,rfl,tp,_,1,_,rfl,rfl,SqT.of htp1,rfl,lo,ks,rfl,hlo1,by omega,fun r hr=>⟨r,_,rfl,upd_same,?_,fun ns pm sr l2 H2 e2 h2 hl2=>?_⟩⟩
   ·have:=Sk.dedup_len ks
    omega
   have knd:ks.Nodup:=CF.inc.imp fun h=>Int.ne_of_lt h
   have ens:ns=ks:=by
    rw [Sk.dedup_self knd] at pm
    exact List.Perm.eq_of_pairwise (fun a b _ _ h3 h4=>Int.le_antisymm h3 h4) sr (CF.inc.imp fun h=>Int.le_of_lt h) pm
   subst ens
   have e12:Same H1 H2:=(same_upd (Same.refl _) hr).trans e2
   have e02:=e1.trans e12
   have hlo2:=e12 _ _ hlo1
   have htp2:=e12 _ _ htp1
   refine ⟨_,_,ints_ls hlo2,ints_ls hl2,_,rfl,?_⟩
   rw [decide_eq_true rfl]
   refine iteF ?_
   obtain ⟨ys,hys,hpy⟩:=htr.mono e02
   have hyl:=Paired.length hpy
   refine ⟨_,rfl,tp,_,1,_,rfl,rfl,SqT.of htp2,rfl,lo,rfl,⟨_,SqL.of hlo2⟩,compV_list (K:=K) (fun _=>.bl false) hlo2 (by rw [List.length_map]; omega) (fun i x H3 ex e3=>?_) (fun lb H3 h3 e3 hlb=>?_)⟩
   ·obtain ⟨z,ez,rfl⟩:∃ z,ns[i]?=some z∧x=.int z:=by
     rw [List.getElem?_map] at ex
     cases hm:ns[i]? with
     | none=>rw [hm] at ex; cases ex
     | some m=>rw [hm] at ex; exact ⟨m,rfl,by simpa using ex.symm⟩
    have hys3:=e3 _ _ hys
    refine ⟨_,rfl,_,rfl,ll,rfl,⟨_,SqL.of hys3⟩,compV_list (K:=K) (fun j=>.int (ts.getD j (0,"","",0)).1) hys3 (by omega) (fun j y H4 ey e4=>?_) (fun lk H4 h4 e4 hlk=>?_)⟩
    ·obtain ⟨t,et,a,rfl,ha⟩:=Paired.at hpy ey
     have eg:ts.getD j (0,"","",0)=t:=by rw [List.getD_eq_getElem?_getD,et]; rfl
     rw [eg]
     exact ⟨_,rfl,a,_,0,_,rfl,rfl,SqT.of (e4 _ _ (e3 _ _ ha)),rfl,rfl,Same.refl _⟩
    ·have hlk:H4 lk=some (.lst ((nums ts).map V.int)):=by
      rw [hlk,hyl,range_mapG (f:=fun t:Tie=>V.int t.1)]
      unfold nums
      rw [List.map_map]
      rfl
     refine ⟨lk,_,rfl,.inl (SqL.of hlk),rfl,flat_ints _,?_,e4⟩
     rw [if_pos rfl,inV_ints,decide_eq_true (CF.mem z (List.mem_of_getElem? ez))]
     rfl
   ·refine ⟨lb,List.replicate ns.length false,rfl,SqL.of (by rw [hlb,List.length_map,List.map_replicate,List.map_const',List.length_range]),_,rfl,?_⟩
    have:(List.replicate ns.length false).any id=false:=by
     rw [List.any_eq_false]
     intro b hb
     rw [(List.mem_replicate.mp hb).2]
     exact fun z=>nomatch z
    rw [this]
    refine iteF ?_
    have hys3:=e3 _ _ hys
    have hpy3:Paired (TriAt H3) ys ts:=Paired.mapP hpy fun _ _ z=>z.mono e3
    refine ⟨_,rfl,ll,rfl,⟨_,SqL.of hys3⟩,compG_list (K:=K) (fun j=>!decide ((ts.getD j (0,"","",0)).1 ∈ ns)) (fun j=>ys.getD j .non) hys3 (by omega) (fun j x H4 ex e4=>?_) (fun lk H4 h4 e4 hlk=>?_)⟩
    ·obtain ⟨t,et,a,rfl,ha⟩:=Paired.at hpy3 ex
     have eg:ts.getD j (0,"","",0)=t:=by rw [List.getD_eq_getElem?_getD,et]; rfl
     have egx:ys.getD j .non=.ref a:=by rw [List.getD_eq_getElem?_getD,ex]; rfl
     rw [eg,egx]
     refine ⟨_,rfl,a,_,0,_,rfl,rfl,SqT.of (e4 _ _ ha),rfl,_,rfl,tp,_,1,_,rfl,rfl,SqT.of (e4 _ _ (e3 _ _ htp2)),rfl,lo,_,rfl,.inl (SqL.of (e4 _ _ (e3 _ _ hlo2))),rfl,flat_ints ns,_,rfl,?_⟩
     rw [if_pos rfl,inV_ints]
     cases hd:decide (t.1 ∈ ns) with
     | true=>exact iteF ⟨rfl,Same.refl _⟩
     | false=>exact iteT ⟨_,rfl,rfl,rfl,Same.refl _⟩
    ·have hk4:=Paired.mapP (kept_tris hpy3 fun t=>!decide (t.1 ∈ ns)) fun _ _ z=>z.mono e4
     refine ⟨_,rfl,_,rfl,lk,_,ho,g,p,rfl,⟨_,hlk,hk4⟩,Nat.le_trans (List.length_filter_le _ _) (by omega),CF.hh,fun t ht=>?_,CF.hg,fun H5 e5=>⟨_,rfl,q H5 (e02.trans (e3.trans (e4.trans e5)))⟩⟩
     obtain ⟨t1,t2⟩:=List.mem_filter.mp ht
     exact CF.cl t t1 (by simpa using t2)
end
end K31
set_option maxRecDepth 100000
namespace L2
open PySem PySem.Spec PyProof.Rows
theorem fldXK {X:Cx} (K:PySem.W.Frag) {e:Expr} {f:Str} {pos:Pos} {ta:TE} (he:PE X e ta) (hb:attributeBase e f X.env (eval e X.env)=eval e X.env) (h:X.K=K:=by rfl):PE X (.Attribute e f pos) (tFldX K ta f):=h ▸ pe_fldX he hb
end L2
namespace K31
open PySem L2 L2.Wy
open PyProof.Rows (boot_list boot_int boot_bool boot_tuple boot_str boot_dict boot_all)
structure TxtP (K : PySem.W.Frag) (mg : Str → Option Value) (NP PE : Addr) : Prop where
  c_NoPost : mg "NoPost" = some (.ref NP)
  c_PostError : mg "PostError" = some (.ref PE)
  n_isinstance : mg "isinstance" = none
  n_ValueError : mg "ValueError" = none
  ea : ExcA K NP "name"
  em : PySem.W.exmOne K (.ref NP) (.ref NP) = some true
  kp : PySem.W.kitOne K (.ref NP) (.ref PE) = some true
  kv : PySem.W.kitOne K (.ref NP) (.type "ValueError") = some true
theorem boot_ValueError:bootBuiltins "ValueError"=some (.type "ValueError"):=by decide +kernel
section
variable {P : Program} {w : World} {K : PySem.W.Frag} {mg : Str → Option Value} {base : Heap}
def sp_Lrefused (c:Cl):Sp:=fun vs H Q _=>∃ (n dp dt:Addr) (S:NS) (ho:Option Str) (x:Str) (N:Nat),vs=[.ref n,.str x]∧NetAt c H n dp dt S∧WOk S none ho N∧¬ x ∈ S.lis∧∀ H',Same H H'→Q (.bl true) H'
abbrev s_Lrefused:Stmt:=top 47
theorem sc_Lrefused:FnScope ["_law_net","_law_name","_law_told","_law_good","e"] ["_law_net","_law_name"] (defScope s_Lrefused):=⟨rfl,rfl,rfl,by decide +kernel,rfl,by decide +kernel,by decide +kernel⟩
theorem ok_Lrefused {c:Cl} {NP PE:Addr} {f:Addr} {fd:FuncData} (F:Fun K "_law_refused" "_law_refused" s_Lrefused f fd) (T:TxtP K mg NP PE) (D_waysd:DfXd P w K mg base 4 "ways" ["net","listener","many","fallen"] [.non] (sp_ways c NP)):FnOk P w K mg base CX0 5 f fd ["_law_net","_law_name"] (sp_Lrefused c):=by
 refine F.ok sc_Lrefused (fun vs H Q E h=>?_) (fun cdv A outer s H vs Q E hr h=>?_)
 ·obtain ⟨n,dp,dt,S,ho,x,N,rfl,_⟩:=h
  rfl
 ·obtain ⟨n,dp,dt,S,ho,x,N,rfl,NA,O,hx,q⟩:=h
  have ND:=sc_Lrefused.nd
  refine ⟨_,(pss_cons (ps_set (i:=2) ND rfl (by first | exact Or.inl rfl | exact Or.inr rfl) pe_non)
 (pss_cons (ps_set (i:=3) ND rfl (by first | exact Or.inl rfl | exact Or.inr rfl) pe_bl)
 (pss_cons (ps_try (i:=4) ⟨rfl,rfl,rfl⟩ ND rfl rfl rfl T.c_NoPost
  (fun _ _=>(pss_one (ps_expr (pe_callXd on_try D_waysd (hr.mono (by decide)) rfl (pa_cons (pv 0) (pa_cons (pv 1) (pa_cons pe_int pa_nil)))))))
  (fun _ _=>(pss_cons (ps_set (i:=2) ND rfl (by first | exact Or.inl rfl | exact Or.inr rfl) (fldXK K (pv 4) rfl))
 (pss_one (ps_set (i:=3) ND rfl (by first | exact Or.inl rfl | exact Or.inr rfl) (pe_and (pe_callB (isiEd K) rfl T.n_isinstance boot_isinstance (pa_cons (pv 4) (pa_cons (pe_glob (v:=.ref _) rfl T.c_PostError rfl) pa_nil))) (pe_one (pe_callB (isiEd K) rfl T.n_isinstance boot_isinstance (pa_cons (pv 4) (pa_cons (pe_bltn (v:=.ty "ValueError") rfl T.n_ValueError boot_ValueError rfl) pa_nil))))))))))
 (pss_one (ps_ret (pe_and (pv 3) (pe_one (pe_cmpR op_eq (pv 2) (pv 1) (nomark _))))))))),?_⟩
  refine ⟨_,rfl,_,rfl,n,dp,dt,S,ho,x,1,N,.non,none,rfl,NA,rfl,O,Nat.le_refl _,by decide,fun _ dx H' e' hd'=>⟨T.em,fun ea hea=>?_⟩,fun z=>absurd z hx⟩
  have nd:dx ≠ ea:=ne_of_none hd' hea
  refine ⟨_,rfl,ea,NP,dx,_,_,rfl,upd_same,by rw [upd_ne nd]; exact hd',T.ea,rfl,?_⟩
  refine ⟨_,rfl,ea,NP,dx,_,_,rfl,upd_same,T.ea.k,.inl ⟨_,rfl,T.kp⟩,_,rfl,iteT ⟨_,rfl,ea,NP,dx,_,_,rfl,upd_same,T.ea.k,.inr ⟨_,rfl,T.kv⟩,?_⟩⟩
  refine ⟨_,rfl,_,rfl,iteT ⟨_,rfl,_,rfl,rfl,?_⟩⟩
  rw [decide_eq_true rfl]
  exact q _ (same_upd e' hea)
end
end K31
set_option maxRecDepth 100000
namespace L2
open PySem PySem.Spec PyProof.Rows
def rSlTS (K:PySem.W.Frag):V→Option Int→Option Int→Hp→VK→Prop:=fun x lo hi H Q=>∃ a xs,x=.ref a∧SqT K H a xs∧¬ (HT.sIx xs.length 0 lo=0∧HT.sIx xs.length xs.length hi=xs.length)∧NewQ H (.tup (cutV xs lo hi)) Q
theorem sltS {X:Cx} (K:PySem.W.Frag) (h:X.K=K:=by rfl):SlR X (rSlTS K):=by
 subst h
 exact sl_tup.imp fun _ _ _ _ _ ⟨a,xs,h1,h2,h3,q⟩=>⟨a,xs,h1,h2,h3,fun _ hp=>q.at hp⟩
end L2
namespace K31
open PySem L2 L2.Wy
open PyProof.Rows (boot_list boot_int boot_bool boot_tuple boot_str boot_dict boot_all boot_sorted boot_set boot_any)
theorem cut16_few (xs:List V):(cutV xs (some 2) (some 18)).length ≤ 16:=by
 unfold cutV
 rw [show (2:Int)=((2:Nat):Int) from rfl,show (18:Int)=((18:Nat):Int) from rfl,HT.sIx_nat,HT.sIx_nat,List.length_take,List.length_drop]
 omega
theorem rank_of {ln:List Str} (nd:ln.Nodup):∃ rank:Str→Nat,(∀ u x,ln[u]?=some x→rank x=u)∧∀ x,rank x < ln.length + 1:=by
 classical
 refine ⟨fun x=>if h:∃ u,ln[u]?=some x then h.choose else 0,fun u x h=>?_,fun x=>?_⟩
 ·have hh:∃ u,ln[u]?=some x:=⟨u,h⟩
  show (if h:∃ u,ln[u]?=some x then h.choose else 0)=u
  rw [dif_pos hh]
  exact at_inj nd hh.choose_spec h
 ·show (if h:∃ u,ln[u]?=some x then h.choose else 0) < _
  split
  ·rename_i hh
   have:=(List.getElem?_eq_some_iff.mp hh.choose_spec).1
   omega
  ·omega
structure Net31 (ns : List Str) (S : NS) (hs : Option Str) : Prop where
  nok : NOk ns
  nn : S.names.Nodup
  mem : ∀ x, x ∈ S.names ↔ x ∈ ns
  nl : S.names.length ≤ 20
  up : ∀ t ∈ S.ties, Up ns t.2.1 t.2.2.1
  num : ∀ (i : Nat) t, S.ties[i]? = some t → t.1 = i
  cnt : S.ties.length ≤ 40
  home : homeV S.home = oS hs
  hh : ∀ x, hs = some x → x ∈ S.names
  ne : ∀ g x, g ∈ S.lis → hs = some x → g ≠ x
theorem names_nodup {ns:List Str} {dn:List Nat} (n:ns.Nodup) (hp:dn.Perm (List.range ns.length)):(dn.map fun j=>ns.getD j "").Nodup:=by
 rw [List.nodup_iff_pairwise_ne,List.pairwise_map]
 have nd:dn.Nodup:=hp.nodup_iff.mpr List.nodup_range
 refine (List.nodup_iff_pairwise_ne.mp nd).imp_of_mem fun {a b} ha hb hab e=>hab ?_
 have h1:=List.mem_range.mp (hp.mem_iff.mp ha)
 have h2:=List.mem_range.mp (hp.mem_iff.mp hb)
 rw [List.getD_eq_getElem?_getD,List.getD_eq_getElem?_getD,List.getElem?_eq_getElem h1,List.getElem?_eq_getElem h2] at e
 exact (List.getElem_inj n).mp e
theorem net31 {ns:List Str} {dn:List Nat} {S1 S:NS} {hs:Option Str} (n:NOk ns) (h:P1 ns dn S1 hs) (hp:dn.Perm (List.range ns.length)) (h2:P2 ns S1 S 40):Net31 ns S hs:=by
 have nm:S.names=S1.names:=by
  unfold NS.names
  rw [h2.posts]
 have lis:S.lis=S1.lis:=by
  unfold NS.lis
  rw [h2.posts]
 have hom:S.home=S1.home:=by
  unfold NS.home
  rw [h2.posts]
 have hnd:S1.names.Nodup:=by rw [h.nms]; exact names_nodup n.nd hp
 refine ⟨n,by rw [nm]; exact hnd,fun x=>by rw [nm]; exact h.mem hp,?_,h2.up,h2.num,h2.cnt,?_,fun x hx=>?_,fun g x hg hx z=>?_⟩
 ·rw [nm,h.nms,List.length_map,hp.length_eq,List.length_range]
  exact n.hi
 ·rw [hom,h.hom]
  cases hs <;> rfl
 ·rw [nm,h.mem hp,(h.hse x hx).2]
  have:0 < ns.length:=by have:=n.lo; omega
  rw [List.getD_eq_getElem?_getD,List.getElem?_eq_getElem this]
  exact List.getElem_mem _
 ·rw [lis] at hg
  obtain ⟨p,hp1,hp2⟩:=List.mem_map.mp hg
  obtain ⟨hp3,hp4⟩:=List.mem_filter.mp hp1
  have hf:=h.hom
  rw [hx] at hf
  unfold NS.home at hf
  have m1:=List.mem_of_find?_eq_some hf
  have inj:∀ {l:List (Str × Kd)},(l.map (·.1)).Nodup→∀ {a b:Str × Kd},a ∈ l→b ∈ l→a.1=b.1→a=b:=fun {l} hl a b ha hb e=>by
   obtain ⟨i,hi,rfl⟩:=List.getElem_of_mem ha
   obtain ⟨j,hj,rfl⟩:=List.getElem_of_mem hb
   have:i=j:=(List.getElem_inj (h₀:=by simpa using hi) (h₁:=by simpa using hj) hl).mp (by simpa using e)
   subst this
   rfl
  have:p=(x,Kd.house):=inj hnd hp3 m1 (by rw [hp2,z])
  rw [this] at hp4
  cases hp4
theorem Net31.inc {ns:List Str} {S:NS} {hs:Option Str} (h:Net31 ns S hs):(nums S.ties).Pairwise (· < ·):=by
 unfold nums
 rw [List.pairwise_map,List.pairwise_iff_getElem]
 intro i j hi hj hij
 rw [h.num i _ (List.getElem?_eq_getElem hi),h.num j _ (List.getElem?_eq_getElem hj)]
 omega
theorem stand_sub {ts:List Tie} (fo:Option (List Int)):List.Sublist (stand ts fo) ts:=by
 cases fo with
 | none=>exact List.Sublist.refl _
 | some fs=>exact List.filter_sublist
theorem Net31.parts {ns:List Str} {S:NS} {hs:Option Str} (h:Net31 ns S hs) (fo:Option (List Int)) (x y:Str):Parts (stand S.ties fo) x y 21:=by
 obtain ⟨rk,r1,r2⟩:=rank_of h.nok.nd
 have hi:=h.nok.hi
 have sub:=stand_sub (ts:=S.ties) fo
 have inc:=h.inc.sublist (sub.map (·.1))
 refine ⟨inc.imp fun z=>Int.ne_of_lt z,⟨rk,fun t ht=>?_,fun z=>by have:=r2 z; omega⟩,by decide,?_⟩
 ·obtain ⟨u,v,huv,hu,hv⟩:=h.up t (sub.subset ht)
  rw [r1 _ _ hu,r1 _ _ hv]
  exact huv
 ·have:=h.cnt
  exact Nat.le_trans sub.length_le (by omega)
theorem Net31.ends {ns:List Str} {S:NS} {hs:Option Str} (h:Net31 ns S hs) (fo:Option (List Int)):Ends (stand S.ties fo) S.names:=fun t ht=>by
 obtain ⟨u,v,_,hu,hv⟩:=h.up t ((stand_sub fo).subset ht)
 exact ⟨(h.mem _).mpr (List.mem_of_getElem? hu),(h.mem _).mpr (List.mem_of_getElem? hv)⟩
theorem Net31.wok {ns:List Str} {S:NS} {hs:Option Str} (h:Net31 ns S hs) (fo:Option (List Int)):WOk S fo hs 21:=by
 have h1:=h.nl
 have h2:=h.cnt
 refine ⟨h.parts fo,h.ends fo,h.nn,by omega,h.hh,h.home,by omega,?_⟩
 have h3:=h1
 unfold NS.names at h3
 rw [List.length_map] at h3
 omega
theorem Net31.rf {ns:List Str} {S:NS} {hs:Option Str} (h:Net31 ns S hs) (fo:Option (List Int)) {g:Str} (hg:g ∈ S.lis):RF (stand S.ties fo) hs g S.names 21:=by
 have h1:=h.nl
 have h2:=h.cnt
 have sub:=stand_sub (ts:=S.ties) fo
 exact ⟨h.parts fo,h.ends fo,by omega,h.hh,h.inc.sublist (sub.map _),Nat.le_trans sub.length_le (by omega),fun x hx=>h.ne g x hg hx⟩
theorem WaysV.mono {H0 H H':Hp} {v:V} {r:Sum (List Int) (List (List Int))} (e:Same H H') (h:WaysV H0 H v r):WaysV H0 H' v r:=by
 cases r with
 | inl ks=>obtain ⟨tp,lo,a,b,c,d,f⟩:=h; exact ⟨tp,lo,a,b,c,e _ _ d,e _ _ f⟩
 | inr wss=>obtain ⟨tp,lo,a,b,c,d,f⟩:=h; exact ⟨tp,lo,a,b,c,e _ _ d,f.mono e⟩
theorem WaysV.upd {H0 H:Hp} {v:V} {r:Sum (List Int) (List (List Int))} {l:Addr} {o:HO} (hl:H0 l ≠ none) (h:WaysV H0 H v r):WaysV H0 (L2.upd H l o) v r:=by
 have ne:∀ {x:Addr},H0 x=none→x ≠ l:=fun hx z=>hl (by rw [← z]; exact hx)
 cases r with
 | inl ks=>
  obtain ⟨tp,lo,a,b,c,d,f⟩:=h
  exact ⟨tp,lo,a,b,c,by rw [upd_ne (ne b)]; exact d,by rw [upd_ne (ne c)]; exact f⟩
 | inr wss=>
  obtain ⟨tp,lo,a,b,c,d,xs,f1,f2⟩:=h
  refine ⟨tp,lo,a,b,c,by rw [upd_ne (ne b)]; exact d,xs,by rw [upd_ne (ne c)]; exact f1,Paired.imp' (fun v ks ⟨x,x1,x2,x3,x4⟩=>⟨x,x1,x2,x3,?_⟩) f2⟩
  rw [upd_ne (ne x3)]
  exact x4
theorem WaysV.pair {H0 H:Hp} {v:V} {r:Sum (List Int) (List (List Int))} (h:WaysV H0 H v r):∃ tp lo xs a,v=.ref tp∧H0 lo=none∧H tp=some (.tup [.str a,.ref lo])∧H lo=some (.lst xs):=by
 cases r with
 | inl ks=>obtain ⟨tp,lo,a,b,c,d,f⟩:=h; exact ⟨tp,lo,_,_,a,c,d,f⟩
 | inr wss=>obtain ⟨tp,lo,a,b,c,d,xs,f1,_⟩:=h; exact ⟨tp,lo,_,_,a,c,d,f1⟩
section
variable {P : Program} {w : World} {K : PySem.W.Frag} {mg : Str → Option Value} {base : Heap}
theorem WaysV.alike {H0 H0' H:Hp} {v v':V} {r:Sum (List Int) (List (List Int))} (h:WaysV H0 H v r) (h':WaysV H0' H v' r):∃ (p p':Addr) (a:Str) (l l':V),v=.ref p∧v'=.ref p'∧SqT K H p [.str a,l]∧SqT K H p' [.str a,l']∧AlikeL K H l l':=by
 cases r with
 | inl ks=>
  obtain ⟨tp,lo,a,b,c,d,f⟩:=h
  obtain ⟨tp',lo',a',b',c',d',f'⟩:=h'
  exact ⟨tp,tp',_,_,_,a,a',SqT.of d,SqT.of d',.inl ⟨ks,ints_ls f,ints_ls f'⟩⟩
 | inr wss=>
  obtain ⟨tp,lo,a,b,c,d,xs,f1,f2⟩:=h
  obtain ⟨tp',lo',a',b',c',d',xs',f1',f2'⟩:=h'
  exact ⟨tp,tp',_,_,_,a,a',SqT.of d,SqT.of d',.inr ⟨wss,⟨lo,xs,rfl,SqL.of f1,Paired.imp' (fun v ks ⟨x,x1,_,_,x4⟩=>by rw [x1]; exact ints_ls x4) f2⟩,⟨lo',xs',rfl,SqL.of f1',Paired.imp' (fun v ks ⟨x,x1,_,_,x4⟩=>by rw [x1]; exact ints_ls x4) f2'⟩⟩⟩
theorem strs_isLs {H:Hp} {p:Addr} {zs:List Str} (h:H p=some (.lst (zs.map V.str))):isLs K isA H (.ref p) (zs.map fun z=>(Sum.inr z:Key)):=by
 refine ⟨p,_,rfl,SqL.of h,?_⟩
 clear h
 induction zs with
 | nil=>exact .nil
 | cons z zs ih=>exact .cons rfl ih
theorem tris_isLs {H:Hp} {p:Addr} {ts:List Tie} (h:TrisAt H p ts):isLs K (isTs K isA) H (.ref p) (ts.map tieK3):=by
 obtain ⟨xs,h1,h2⟩:=h
 refine ⟨p,xs,rfl,SqL.of h1,?_⟩
 clear h1
 induction h2 with
 | nil=>exact .nil
 | cons a _ ih=>
  obtain ⟨b,rfl,hb⟩:=a
  exact .cons ⟨b,_,rfl,SqT.of hb,.cons rfl (.cons rfl (.cons rfl .nil))⟩ ih
def manyM (k:Nat):Int:=if k % 2=0 then 3 else 6
def fallM (c:Int):Int:=if c % 2=0 then 9 else 2
abbrev s_law:Stmt:=top 48
theorem sc_law:FnScope ["_law_script","_law_first","_law_second","_law_names_here","_law_net","_law_house","_law_listeners","_law_ties_here","_law_k","_law_name","_law_many","_law_fallen","_law_handed","_law_found","_law_left","_law_told"] ["_law_script"] (defScope s_law):=⟨rfl,rfl,rfl,by decide +kernel,rfl,by decide +kernel,by decide +kernel⟩
def sp_law (K:PySem.W.Frag):Sp:=fun vs H Q _=>∃ (a:Addr) (ns:List Int),vs=[.ref a]∧SqL K H a (ns.map V.int)∧ns.length ≤ 63∧∀ H',Q (.bl true) H'
theorem ok_law {c:Cl} {NP:Addr} {f:Addr} {fd:FuncData} (F:Fun K "law" "law" s_law f fd) (T:TxtA mg) (D_Lcell_at:Df P w K mg base 1 "_law_cell_at" ["_law_script","_law_k"] (sp_Lcell_at K)) (D_Lmix:Df P w K mg base 1 "_law_mix" ["_law_cell","_law_k"] sp_Lmix) (D_Lnames:Df P w K mg base 1 "_law_names" ["_law_first"] sp_Lnames)
  (D_Net:Dk P w K mg base 1 "Net" c.net ["self"] (sp_ninit c)) (D_Lput_in:Df P w K mg base 5 "_law_put_in" ["_law_net","_law_names_here","_law_first"] (sp_Lput_in c)) (D_Lties:Df P w K mg base 4 "_law_ties" ["_law_net","_law_names_here","_law_cells"] (sp_Lties K c)) (D_Lrefused:Df P w K mg base 5 "_law_refused" ["_law_net","_law_name"] (sp_Lrefused c))
  (D_ways:DfX P w K mg base 4 "ways" ["net","listener","many","fallen"] (sp_ways c NP)) (D_waysd:DfXd P w K mg base 4 "ways" ["net","listener","many","fallen"] [.non] (sp_ways c NP)) (D_Lright:Df P w K mg base 3 "_law_right" ["_law_found","_law_left","_law_house","_law_goal","_law_many"] sp_Lright) (D_Net_listeners:Dm P w K mg base 2 c.net "listeners" ["self"] (sp_listeners c)) (D_Net_ties:Dm P w K mg base 1 c.net "ties" ["self"] (sp_ties c)):FnOk P w K mg base CX0 6 f fd ["_law_script"] (sp_law K):=by
 refine F.ok sc_law (fun vs H Q E h=>?_) (fun cdv A outer s H vs Q E hr h=>?_)
 ·obtain ⟨a,ns,rfl,_⟩:=h
  rfl
 ·obtain ⟨a,cs,rfl,ha,hcs,q⟩:=h
  have ND:=sc_law.nd
  refine ⟨_,(pss_cons (ps_set (i:=1) ND rfl (by first | exact Or.inl rfl | exact Or.inr rfl) (pe_callD D_Lcell_at (hr.mono (by decide)) rfl (pa_cons (pv 0) (pa_cons pe_int pa_nil))))
 (pss_cons (ps_set (i:=2) ND rfl (by first | exact Or.inl rfl | exact Or.inr rfl) (pe_callD D_Lcell_at (hr.mono (by decide)) rfl (pa_cons (pv 0) (pa_cons pe_int pa_nil))))
 (pss_cons (ps_set (i:=3) ND rfl (by first | exact Or.inl rfl | exact Or.inr rfl) (pe_callD D_Lnames (hr.mono (by decide)) rfl (pa_cons (pv 1) pa_nil)))
 (pss_cons (ps_set (i:=4) ND rfl (by first | exact Or.inl rfl | exact Or.inr rfl) (pe_make0D D_Net (hr.mono (by decide)) rfl))
 (pss_cons (ps_asg (pe_callD D_Lput_in (hr.mono (by decide)) rfl (pa_cons (pv 4) (pa_cons (pv 3) (pa_cons (pv 1) pa_nil)))) (pgtK K (n:=2) rfl (pgs_cons (pg_name (i:=5) ND rfl (by first | exact Or.inl rfl | exact Or.inr rfl)) (pgs_cons (pg_name (i:=6) ND rfl (by first | exact Or.inl rfl | exact Or.inr rfl)) pgs_nil))))
 (pss_cons (ps_set (i:=7) ND rfl (by first | exact Or.inl rfl | exact Or.inr rfl) (pe_callD D_Lties (hr.mono (by decide)) rfl (pa_cons (pv 4) (pa_cons (pv 3) (pa_cons (pe_slice (sllS K) (pv 0) (po_some pe_int) (po_some pe_int)) pa_nil)))))
 (pss_cons (ps_for PassesOwn.never rfl (pi_enum K rfl T.n_enumerate (pa_cons (pe_op op_catS (pv 3) (pe_lstS (pa_cons pe_str pa_nil))) pa_nil)) (pgtK K (n:=2) rfl (pgs_cons (pg_name (i:=8) ND rfl (by first | exact Or.inl rfl | exact Or.inr rfl)) (pgs_cons (pg_name (i:=9) ND rfl (by first | exact Or.inl rfl | exact Or.inr rfl)) pgs_nil)))
  (pss_cons (ps_set (i:=10) ND rfl (by first | exact Or.inl rfl | exact Or.inr rfl) (pe_op op_add pe_int (pe_op op_mod (pe_callD D_Lmix (hr.mono (by decide)) rfl (pa_cons (pv 2) (pa_cons (pe_op op_add (pv 8) pe_int) pa_nil))) (pe_ix (ixlK K) (pe_lstS (pa_cons pe_int (pa_cons pe_int pa_nil))) (pe_op op_mod (pv 8) pe_int) (fun _ _=>rfl)))))
 (pss_cons (ps_set (i:=11) ND rfl (by first | exact Or.inl rfl | exact Or.inr rfl) (pe_comp rfl (compScope_of (nT:=1) (js:=[2,8]) (N':=["_law_row","_law_second","_law_k"]) rfl rfl (by kernel_rfl)) (pilK K (pv 7))
  (fun _ _ _ _ _=>(pg_name (i:=0) (show List.Nodup (["_law_row","_law_second","_law_k"]:List Str) by decide +kernel) rfl (by first | exact Or.inl rfl | exact Or.inr rfl)))
  (fun _ _ _ _ _=>(pif_one (pt_cmpR op_eq (pe_op op_mod (pe_callD D_Lmix (hr.mono (by decide)) rfl (pa_cons (pv 1) (pa_cons (pe_op op_add (pe_op op_mul pe_int (pv 2)) (pe_ix (ixtK K) (pv 0) pe_int (fun _ _=>rfl))) pa_nil))) (pe_ix (ixlK K) (pe_lstS (pa_cons pe_int (pa_cons pe_int pa_nil))) (pe_op op_mod (pv 1) pe_int) (fun _ _=>rfl))) pe_int (nomark _))))
  (fun _ _ _ _ _=>(pe_ix (ixtK K) (pv 0) pe_int (fun _ _=>rfl)))))
 (pss_cons (ps_set (i:=12) ND rfl (by first | exact Or.inl rfl | exact Or.inr rfl) (pe_callTy (listS K) rfl T.n_list boot_list (pa_cons (pv 11) pa_nil)))
 (pss_one (ps_ifJ (pt_cmpR (notinK K) (pv 9) (pv 6) (by with_unfolding_all rfl))
  (pss_one (ps_if (pt_not (pt_val (pe_callD D_Lrefused (hr.mono (by decide)) rfl (pa_cons (pv 4) (pa_cons (pv 9) pa_nil)))))
  (pss_one (ps_ret pe_bl))
  pss_nil))
  (pss_cons (ps_set (i:=13) ND rfl (by first | exact Or.inl rfl | exact Or.inr rfl) (pe_callX on_no D_ways (hr.mono (by decide)) rfl (pa_cons (pv 4) (pa_cons (pv 9) (pa_cons (pv 10) (pa_cons (pv 12) pa_nil))))))
 (pss_cons (ps_setComp (i:=14) ND rfl rfl rfl (compScope_of (nT:=1) (js:=[11]) (N':=["_law_row","_law_fallen"]) rfl rfl (by kernel_rfl)) (pilK K (pv 7))
  (fun _ _ _ _ _=>(pg_name (i:=0) (show List.Nodup (["_law_row","_law_fallen"]:List Str) by decide +kernel) rfl (by first | exact Or.inl rfl | exact Or.inr rfl)))
  (fun _ _ _ _ _=>(pif_one (pt_cmpR (notinK K) (pe_ix (ixtK K) (pv 0) pe_int (fun _ _=>rfl)) (pv 1) (by with_unfolding_all rfl))))
  (fun _ _ _ _ _=>(pv 0)))
 (pss_cons (ps_if (PW.pt (pw_or (pt_cmpR (neLK K eqk_int (hu_of hr)) (pv 12) (pv 11) (nomark _)) (pw_or1 (pt_not (pt_val (pe_callD D_Lright (hr.mono (by decide)) rfl (pa_cons (pv 13) (pa_cons (pv 14) (pa_cons (pv 5) (pa_cons (pv 9) (pa_cons (pv 10) pa_nil)))))))))))
  (pss_one (ps_ret pe_bl))
  pss_nil)
 (pss_cons (ps_set (i:=15) ND rfl (by first | exact Or.inl rfl | exact Or.inr rfl) (pe_callX on_no D_ways (hr.mono (by decide)) rfl (pa_cons (pv 4) (pa_cons (pv 9) (pa_cons (pv 10) (pa_cons (pe_callTy (listS K) rfl T.n_list boot_list (pa_cons (pv 11) pa_nil)) pa_nil))))))
 (pss_cons (ps_if (pt_cmpR (neWK K (hu_of4 hr)) (pv 15) (pv 13) (nomark _))
  (pss_one (ps_ret pe_bl))
  pss_nil)
 (pss_cons (ps_expr (bm0K K PySem.F.plainAttrs_list PySem.F.slot_list_clear PySem.F.type_list_clear mt_clear (pe_ix (ixtK K) (pv 13) pe_int (fun _ _=>rfl))))
 (pss_cons (ps_if (pt_cmpR (neWK K (hu_of4 hr)) (pe_callX on_no D_ways (hr.mono (by decide)) rfl (pa_cons (pv 4) (pa_cons (pv 9) (pa_cons (pv 10) (pa_cons (pe_callTy (listS K) rfl T.n_list boot_list (pa_cons (pv 11) pa_nil)) pa_nil))))) (pv 15) (nomark _))
  (pss_one (ps_ret pe_bl))
  pss_nil)
 (pss_one (ps_if (pt_not (pt_val (pe_callD D_Lright (hr.mono (by decide)) rfl (pa_cons (pe_callXd on_no D_waysd (hr.mono (by decide)) rfl (pa_cons (pv 4) (pa_cons (pv 9) (pa_cons (pv 10) pa_nil)))) (pa_cons (pv 7) (pa_cons (pv 5) (pa_cons (pv 9) (pa_cons (pv 10) pa_nil))))))))
  (pss_one (ps_ret pe_bl))
  pss_nil)))))))))))))))
 (pss_one (ps_ret (pe_and (pe_cmpR (eqLK K eqk_key (hu_of hr)) (pe_meth0D (pv 4) D_Net_listeners (hr.mono (by decide))) (pv 6) (nomark _)) (pe_one (pe_cmpR (eqLK K (eqk_tup eqk_key) (hu_of2 hr)) (pe_comp rfl (compScope_of (nT:=1) (js:=[]) (N':=["_law_row"]) rfl rfl (by kernel_rfl)) (pilK K (pe_meth0D (pv 4) D_Net_ties (hr.mono (by decide))))
  (fun _ _ _ _ _=>(pg_name (i:=0) (show List.Nodup (["_law_row"]:List Str) by decide +kernel) rfl (by first | exact Or.inl rfl | exact Or.inr rfl)))
  (fun _ _ _ _ _=>pif_nil)
  (fun _ _ _ _ _=>(pe_slice (sltS K) (pv 0) po_none (po_some pe_int)))) (pv 7) (nomark _))))))))))))),?_⟩
  refine ⟨_,rfl,a,0,cs,rfl,by decide,ha,fun c0=>?_⟩
  refine ⟨_,rfl,a,1,cs,rfl,by decide,ha,fun c1=>?_⟩
  refine ⟨_,rfl,c0,rfl,fun ln Hb ns eb hb0 nok hln=>?_⟩
  intro n dx hn hdx nd
  refine ⟨n,dx,rfl,upd_same,fun dp dt H1 p1 p2 p3 b1 hi hp ht=>⟨rfl,?_⟩⟩
  have x1:dp ≠ n:=fun z=>by rw [z,upd_same] at p1; cases p1
  have x2:dt ≠ n:=fun z=>by rw [z,upd_same] at p2; cases p2
  have y1:dp ≠ dx:=fun z=>by rw [upd_ne x1,z,upd_same] at p1; cases p1
  have y2:dt ≠ dx:=fun z=>by rw [upd_ne x2,z,upd_same] at p2; cases p2
  have p1:Hb dp=none:=by rw [upd_ne x1,upd_ne y1] at p1; exact p1
  have p2:Hb dt=none:=by rw [upd_ne x2,upd_ne y2] at p2; exact p2
  have e1:Same Hb H1:=fun a o ha=>b1 a o (ne_of_none ha hn) (by rw [upd_ne (ne_of_none ha hn),upd_ne (ne_of_none ha hdx)]; exact ha)
  have N1:NetAt c H1 n dp dt S0:=⟨⟨dx,hi⟩,⟨[],hp,.nil⟩,⟨[],ht,.nil⟩,p3⟩
  refine ⟨_,rfl,_,rfl,_,rfl,n,dp,dt,ln,ns,c0,rfl,N1,e1 _ _ hln,nok,fun tp ll H2 S1 hs dn b2 htp0 hll0 htp hll N2 hpm hP1=>?_⟩
  refine ⟨tp,_,rfl,SqT.of htp,rfl,_,_,rfl,_,[],rfl,rfl,?_⟩
  have eb2:Same Hb H2:=fun z o hz=>b2 z o (ne_of_none hz p1) (e1 _ _ hz)
  refine ⟨_,rfl,_,rfl,_,rfl,_,rfl,_,rfl,a,_,rfl,sqm (sqm ha eb) eb2,fun lc H3 e3 h3 hlc=>?_⟩
  refine ⟨n,dp,dt,ln,lc,S1,ns,dn,hs,_,rfl,N2.mono e3,e3 _ _ (eb2 _ _ hln),nok,hP1,hpm,SqL.of hlc,fun v hv=>?_,cut16_few _,fun lt H4 S b4 hlt0 htr N4 hP2=>?_⟩
  ·obtain ⟨z,_,rfl⟩:=List.mem_map.mp (cut_mem hv)
   exact ⟨z,rfl⟩
  have NN:=net31 nok hP1 hpm hP2
  have lis:S.lis=S1.lis:=by
   unfold NS.lis
   rw [hP2.posts]
  have hln4:H4 ln=some (.lst (ns.map V.str)):=b4 _ _ (ne_of_none hln hn) (ne_of_none hln p2) (e3 _ _ (eb2 _ _ hln))
  obtain ⟨dx2,hN2⟩:=id N2.ins
  obtain ⟨kt2,hkt2,_⟩:=id N2.ties
  have hll4:H4 ll=some (.lst (S.lis.map V.str)):=by
   rw [lis]
   exact b4 _ _ (ne_of hll hN2 (fun z=>nomatch z)) (ne_of hll hkt2 (fun z=>nomatch z)) (e3 _ _ hll)
  clear b4 hlt0 hP2 lis hN2 hkt2
  have nlo:=nok.lo
  have nhi:=nok.hi
  refine ⟨_,rfl,(by show 1 ≤ sizeLine; decide),fun l1 H5 e5 h5 hl1=>?_⟩
  refine ⟨ln,l1,_,_,rfl,rfl,e5 _ _ hln4,hl1,by rw [List.length_map]; show _ + 1 ≤ 2 ^ 24; omega,fun le H6 e6 h6 hle=>⟨le,_,rfl,hle,?_⟩⟩
  have e46:=e5.trans e6
  have N6:=N4.mono e46
  have hll6:=e46 _ _ hll4
  have htr6:=htr.mono e46
  obtain ⟨ys,hys,hpy⟩:=id htr6
  have hyl:=Paired.length hpy
  have cnt:=NN.cnt
  obtain ⟨dx6,hN6⟩:=id N6.ins
  have pl:S.posts.length ≤ 1000:=(NN.wok none).pl
  refine for_enum (K:=K) (xs:=ns.map V.str ++ [.str "nobody"]) (fun i σ H'=>(∃ o8 o9 o10 o11 o12 o13 o14 o15,σ=[some (.ref a),some (.int c0),some (.int c1),some (.ref ln),some (.ref n),some (oS hs),some (.ref ll),some (.ref lt),o8,o9,o10,o11,o12,o13,o14,o15])∧Same H6 H')
   ⟨⟨_,_,_,_,_,_,_,_,rfl⟩,Same.refl _⟩ (fun i σ H' _ h=>SqL.of (h.2 _ _ hle)) ?_ ?_
  ·rintro i xv T' σ H7 ex ⟨⟨o8,o9,o10,o11,o12,o13,o14,o15,rfl⟩,e7⟩ hT
   have hi21:i < 21:=by
    have:=(List.getElem?_eq_some_iff.mp ex).1
    rw [List.length_append,List.length_map,List.length_singleton] at this
    omega
   obtain ⟨x,rfl⟩:∃ x,xv=.str x:=by
    have:=List.mem_of_getElem? ex
    rcases List.mem_append.mp this with z | z
    ·obtain ⟨y,_,rfl⟩:=List.mem_map.mp z
     exact ⟨y,rfl⟩
    ·exact ⟨_,List.mem_singleton.mp z⟩
   have eT:Same H7 (upd H7 T' (.tup [.int i,.str x])):=same_upd (Same.refl _) hT
   generalize upd H7 T' (.tup [.int i,.str x])=H8 at eT
   have e68:=e7.trans eT
   have m0:0 < manyM i:=by unfold manyM; split <;> decide
   have m6:manyM i ≤ 6:=by unfold manyM; split <;> decide
   have mat:atI [V.int 3,V.int 6] ((i:Int) % 2)=some (.int (manyM i)):=by
    unfold manyM
    by_cases h:i % 2=0
    ·rw [if_pos h,show (i:Int) % 2=0 by omega]; rfl
    ·rw [if_neg h,show (i:Int) % 2=1 by omega]; rfl
   refine ⟨_,rfl,_,rfl,_,_,rfl,rfl,c1,(i:Int) + 1,rfl,by omega,by omega,fun H9 e9=>⟨(by show 2 ≤ sizeLine; decide),fun lq Ha ea ha0 hlq=>?_⟩⟩
   refine ⟨_,rfl,_,_,rfl,rfl,(by show (0:Int) < 2; decide),lq,_,_,_,rfl,rfl,SqL.of hlq,mat,_,_,rfl,rfl,m0,_,_,rfl,rfl,?_⟩
   obtain ⟨m,em,hm1,hm6⟩:∃ m:Nat,1 + mixL c1 ((i:Int) + 1) % manyM i=(m:Int)∧1 ≤ m∧m ≤ 6:=by
    have r0:0 ≤ mixL c1 ((i:Int) + 1) % manyM i:=Int.emod_nonneg _ (by omega)
    have r1:mixL c1 ((i:Int) + 1) % manyM i < manyM i:=Int.emod_lt_of_pos _ m0
    exact ⟨(1 + mixL c1 ((i:Int) + 1) % manyM i).toNat,by omega,by omega,by omega⟩
   change gName 10 (V.int (1 + mixL c1 ((i:Int) + 1) % manyM i)) _ _ _
   rw [em]
   have e6a:=e68.trans (e9.trans ea)
   have hysa:=e6a _ _ hys
   have f0:0 < fallM c1:=by unfold fallM; split <;> decide
   have fat:atI [V.int 9,V.int 2] (c1 % 2)=some (.int (fallM c1)):=by
    have c3:0 ≤ c1 % 2:=Int.emod_nonneg _ (by decide)
    have c4:c1 % 2 < 2:=Int.emod_lt_of_pos _ (by decide)
    unfold fallM
    by_cases h:c1 % 2=0
    ·rw [if_pos h,h]; rfl
    ·rw [if_neg h,show c1 % 2=1 by omega]; rfl
   refine ⟨_,rfl,lt,rfl,⟨_,SqL.of hysa⟩,compG_list (K:=K) (fun j=>decide (mixL c1 (20 * (i:Int) + (S.ties.getD j (0,"","",0)).1) % fallM c1=0)) (fun j=>.int (S.ties.getD j (0,"","",0)).1) hysa (by omega) (fun j y Hc ey ec=>?_) (fun lf Hc hc0 ec hlf=>?_)⟩
   ·obtain ⟨t,et,p,rfl,hpt⟩:=Paired.at hpy ey
    have egt:S.ties.getD j (0,"","",0)=t:=by rw [List.getD_eq_getElem?_getD,et]; rfl
    rw [egt]
    have hpc:=ec _ _ (e6a _ _ hpt)
    have tn:=NN.num j t et
    have tj:=(List.getElem?_eq_some_iff.mp et).1
    refine ⟨_,rfl,_,rfl,_,_,rfl,rfl,.inl ⟨by decide,by decide⟩,_,rfl,p,_,0,_,rfl,rfl,SqT.of hpc,rfl,_,_,rfl,rfl,c1,20 * (i:Int) + t.1,rfl,by omega,by omega,fun Hd ed=>?_⟩
    refine ⟨(by show 2 ≤ sizeLine; decide),fun lq2 He ee he0 hlq2=>?_⟩
    refine ⟨_,rfl,_,_,rfl,rfl,(by show (0:Int) < 2; decide),lq2,_,_,_,rfl,rfl,SqL.of hlq2,fat,_,_,rfl,rfl,f0,rfl,_,rfl,?_⟩
    refine ite2 (fun g0=>?_) (fun g0=>?_)
    ·refine ⟨_,rfl,p,_,0,_,rfl,rfl,SqT.of (ee _ _ (ed _ _ hpc)),rfl,?_,rfl,ed.trans ee⟩
     have:=of_decide_eq_true g0
     injection this with this
     exact decide_eq_true this
    ·refine ⟨decide_eq_false fun z=>g0 (decide_eq_true (by rw [← z])),ed.trans ee⟩
   ·rw [hyl,range_filter_map S.ties (fun t=>decide (mixL c1 (20 * (i:Int) + t.1) % fallM c1=0)) (fun t=>V.int t.1) _ _ fun j t et=>by rw [List.getD_eq_getElem?_getD,et]; exact ⟨rfl,rfl⟩] at hlf
    obtain ⟨fs,hfs,fsl⟩:∃ fs:List Int,Hc lf=some (.lst (fs.map V.int))∧fs.length ≤ 40:=⟨(S.ties.filter fun t=>decide (mixL c1 (20 * (i:Int) + t.1) % fallM c1=0)).map (·.1),by rw [hlf,List.map_map]; rfl,by rw [List.length_map]; exact Nat.le_trans (List.length_filter_le _ _) cnt⟩
    clear hlf
    have e6c:=e6a.trans ec
    refine ⟨_,rfl,lf,_,rfl,.inl (SqL.of hfs),fun lh Hd ed hd0 hlh=>?_⟩
    have e6d:=e6c.trans ed
    have hfsd:=ed _ _ hfs
    have INV:∀ {o13 o14 o15:Option V} {He:Hp},Same Hd He→(∃ o8 o9 o10 o11 o12 o13' o14' o15',([some (.ref a),some (.int c0),some (.int c1),some (.ref ln),some (.ref n),some (oS hs),some (.ref ll),some (.ref lt),some (.int (i:Int)),some (.str x),some (.int (m:Int)),some (.ref lf),some (.ref lh),o13,o14,o15]:St)=[some (.ref a),some (.int c0),some (.int c1),some (.ref ln),some (.ref n),some (oS hs),some (.ref ll),some (.ref lt),o8,o9,o10,o11,o12,o13',o14',o15'])∧Same H6 He:=fun e=>⟨⟨_,_,_,_,_,_,_,_,rfl⟩,e6d.trans e⟩
    refine ⟨_,fun _ _ h=>h,_,rfl,_,rfl,ll,_,rfl,.inl (SqL.of (e6d _ _ hll6)),rfl,flat_strs _,_,rfl,?_⟩
    rw [if_pos rfl,inV_strs]
    by_cases hx:x ∈ S.lis
    ·rw [decide_eq_true hx]
     refine iteF ?_
     have W:=NN.wok (some fs)
     refine ⟨_,rfl,_,rfl,_,rfl,_,rfl,n,dp,dt,S,hs,x,m,21,.ref lh,some fs,rfl,N6.mono e6d,⟨lh,rfl,hlh⟩,W,hm1,by omega,fun z=>absurd hx z,fun _ v He ee hv=>?_⟩
     have e6e:=e6d.trans ee
     have hyse:=e6e _ _ hys
     have hpye:Paired (TriAt He) ys S.ties:=Paired.mapP hpy fun _ _ z=>z.mono e6e
     have hfse:=ee _ _ hfsd
     refine ⟨_,rfl,lt,rfl,⟨_,SqL.of hyse⟩,compG_list (K:=K) (fun j=>!decide ((S.ties.getD j (0,"","",0)).1 ∈ fs)) (fun j=>ys.getD j .non) hyse (by omega) (fun j y Hf ey ef=>?_) (fun lle Hf hf0 ef hlle=>?_)⟩
     ·obtain ⟨t,et,p,rfl,hpt⟩:=Paired.at hpye ey
      have eg:S.ties.getD j (0,"","",0)=t:=by rw [List.getD_eq_getElem?_getD,et]; rfl
      have egx:ys.getD j .non=.ref p:=by rw [List.getD_eq_getElem?_getD,ey]; rfl
      rw [eg,egx]
      refine ⟨_,rfl,p,_,0,_,rfl,rfl,SqT.of (ef _ _ hpt),rfl,_,rfl,lf,_,rfl,.inl (SqL.of (ef _ _ hfse)),rfl,flat_ints fs,_,rfl,?_⟩
      rw [if_pos rfl,inV_ints]
      cases hd:decide (t.1 ∈ fs) with
      | true=>exact iteF ⟨rfl,Same.refl _⟩
      | false=>exact iteT ⟨_,rfl,rfl,rfl,Same.refl _⟩
     ·have hleft:TrisAt Hf lle (stand S.ties (some fs)):=⟨_,hlle,Paired.mapP (kept_tris hpye fun t=>!decide (t.1 ∈ fs)) fun _ _ z=>z.mono ef⟩
      have hfsf:=ef _ _ hfse
      refine ⟨_,rfl,_,rfl,_,_,ints_ls (ef _ _ (ee _ _ hlh)),ints_ls hfsf,_,rfl,?_⟩
      rw [decide_eq_true rfl]
      have R:=NN.rf (some fs) hx
      have hvf:=hv.mono ef
      refine iteF ⟨_,rfl,_,rfl,_,rfl,_,rfl,_,rfl,v,lle,Hd,_,hs,x,_,21,m,rfl,hvf,hleft,R,hm1,by omega,fun Hg eg=>⟨_,rfl,iteF ?_⟩⟩
      have edg:=ee.trans (ef.trans eg)
      have hfsg:=eg _ _ hfsf
      refine ⟨_,rfl,_,rfl,_,rfl,_,rfl,lf,_,rfl,.inl (SqL.of hfsg),fun l2 Hh eh hh0 hl2=>?_⟩
      have edh:=edg.trans eh
      refine ⟨n,dp,dt,S,hs,x,m,21,.ref l2,some fs,rfl,N6.mono (e6d.trans edh),⟨l2,rfl,hl2⟩,W,hm1,by omega,fun z=>absurd hx z,fun _ v2 Hi ei hv2=>?_⟩
      have edi:=edh.trans ei
      have hvi:=hvf.mono (eg.trans (eh.trans ei))
      obtain ⟨p,p',aa,l,l',r1,r2,r3,r4,r5⟩:=WaysV.alike (K:=K) hv2 hvi
      refine ⟨_,rfl,_,rfl,p,p',aa,l,l',r1,r2,r3,r4,r5,_,rfl,iteF ?_⟩
      obtain ⟨tp2,lo2,zs,ab,rfl,ql0,qt,ql⟩:=hvi.pair
      refine ⟨_,rfl,tp2,_,1,_,rfl,rfl,SqT.of qt,rfl,.inl ⟨rfl,_,SqL.of ql⟩,lo2,_,rfl,rfl,ql,?_⟩
      have hlo2h:Hh lo2 ≠ none:=by
       obtain ⟨tp3,lo3,zs3,ab3,w0,w1,w2,w3⟩:=hvf.pair
       cases w0
       have:lo3=lo2:=by
        have q2:=ei _ _ (eh _ _ (eg _ _ w2))
        rw [qt] at q2
        injection q2 with q2
        injection q2 with q2
        injection q2 with q2 q3
        injection q3 with q3 q4
        injection q3 with q3
        exact q3.symm
       subst this
       rw [eh _ _ (eg _ _ w3)]
       exact fun z=>nomatch z
      have hv2c:=WaysV.upd (o:=.lst []) hlo2h hv2
      have edj:Same Hd (L2.upd Hi lo2 (.lst [])):=same_new edi ql0
      generalize L2.upd Hi lo2 (.lst [])=Hj at edj hv2c
      have hfsj:=edj _ _ hfsd
      refine ⟨_,rfl,_,rfl,_,rfl,_,rfl,lf,_,rfl,.inl (SqL.of hfsj),fun l3 Hk ek hk0 hl3=>?_⟩
      have edk:=edj.trans ek
      refine ⟨n,dp,dt,S,hs,x,m,21,.ref l3,some fs,rfl,N6.mono (e6d.trans edk),⟨l3,rfl,hl3⟩,W,hm1,by omega,fun z=>absurd hx z,fun _ v3 Hl el hv3=>?_⟩
      have edl:=edk.trans el
      obtain ⟨p3,p3',aa3,l3',l3'',s1,s2,s3,s4,s5⟩:=WaysV.alike (K:=K) hv3 (hv2c.mono (ek.trans el))
      refine ⟨_,rfl,p3,p3',aa3,l3',l3'',s1,s2,s3,s4,s5,_,rfl,iteF ?_⟩
      refine ⟨_,rfl,_,rfl,_,rfl,n,dp,dt,S,hs,x,m,21,.non,none,rfl,N6.mono (e6d.trans edl),rfl,NN.wok none,hm1,by omega,fun z=>absurd hx z,fun _ v4 Hm em4 hv4=>?_⟩
      have edm:=edl.trans em4
      refine ⟨_,rfl,_,rfl,_,rfl,_,rfl,v4,lt,Hl,S.ties,hs,x,S.names,21,m,rfl,hv4,htr6.mono (e6d.trans edm),NN.rf none hx,hm1,by omega,fun Hn en=>⟨_,rfl,iteF ?_⟩⟩
      exact INV (edm.trans en)
    ·rw [decide_eq_false hx]
     refine iteT ⟨_,rfl,_,rfl,n,dp,dt,S,hs,x,21,rfl,N6.mono e6d,NN.wok none,hx,fun He ee=>⟨_,rfl,iteF ?_⟩⟩
     exact INV ee
  ·rintro σ H7 ⟨⟨o8,o9,o10,o11,o12,o13,o14,o15,rfl⟩,e7⟩
   have N7:=N6.mono e7
   refine ⟨_,rfl,n,dx6,_,rfl,e7 _ _ hN6,rfl,n,dp,dt,S,rfl,N7,pl,fun l8 H8 e8 h8 hl8=>?_⟩
   refine ⟨_,rfl,_,_,strs_isLs hl8,strs_isLs (e8 _ _ (e7 _ _ hll6)),_,rfl,?_⟩
   rw [decide_eq_true rfl]
   have e68:=e7.trans e8
   refine iteT ⟨_,rfl,n,dx6,_,rfl,e68 _ _ hN6,rfl,n,dp,dt,S,rfl,N6.mono e68,by omega,fun l9 H9 e9 h9 ht9=>?_⟩
   obtain ⟨zs,hzs,hpz⟩:=ht9
   have hzl:=Paired.length hpz
   refine ⟨l9,rfl,⟨_,SqL.of hzs⟩,compP_list (K:=K) (fun j Hx v=>∃ t,S.ties[j]?=some t∧TriAt Hx v t) (fun j Hx Hx' v e ⟨t,e1,e2⟩=>⟨t,e1,e2.mono e⟩) (SqL.of hzs) (by omega) (fun j v Ha ev ea=>?_) (fun lr Ha vs h0 ea hlr hvl hvv=>?_)⟩
   ·obtain ⟨t,et,p,rfl,hpt⟩:=Paired.at hpz ev
    refine ⟨_,rfl,_,rfl,p,_,rfl,SqT.of (ea _ _ hpt),?_,fun pn Hb' eb' hb' hpn=>⟨fun l hl0 hl1=>⟨t,et,pn,rfl,?_⟩,eb'⟩⟩
    ·rintro ⟨_,z⟩
     have:HT.sIx 4 4 (some (3:Int))=3:=by
      rw [show (3:Int)=((3:Nat):Int) from rfl,HT.sIx_nat]
      rfl
     have z:HT.sIx 4 4 (some (3:Int))=4:=z
     omega
    ·have np:pn ≠ l:=fun z=>hl1 (z ▸ hb')
     rw [hide_ne np,hpn]
     rfl
   ·have htr9:TrisAt Ha lr S.ties:=⟨vs,hlr,paired_of (by omega) fun j v t hv ht=>by
     obtain ⟨t',e1,b,rfl,hb⟩:=hvv j v hv
     rw [ht] at e1
     cases e1
     exact ⟨b,rfl,hide_same _ _ hb⟩⟩
    refine ⟨_,rfl,_,_,tris_isLs htr9,tris_isLs (htr6.mono (e68.trans (e9.trans ea))),?_⟩
    rw [decide_eq_true rfl]
    exact q _
end
end K31
set_option maxRecDepth 100000
namespace K31
open PySem L2
section
variable {P : Program} {w : World} {K : PySem.W.Frag} {mg : Str → Option Value} {base h : Heap}
def In0 (K:PySem.W.Frag) (C:Addr) (qual:Str) (st:Stmt):Prop:=∃ f fd,Mk K C f∧Fun K "__init__" qual st f fd
theorem in0_mk {C:Addr} {qual:Str} {st:Stmt} {f:Addr} {oc:Value} {od an:Option Addr} {osl:Array (Option Value)} {kV doc pm cdv ct:Value} (mk:PySem.W.makesIn K C=true) (a:PySem.W.findIn K (.ref C) "__init__"=some (some (.ref f))) (i:PySem.W.isFn K (.ref f)=true) (kc:PySem.W.keepIn K (.ref C)=true)
  (l:K.lookup f=some ⟨oc,od,.func (PySem.W.fnOf "__init__" qual (defArgs st) (defBody st) (defScope st) .none kV doc pm an cdv ct),osl⟩)
  (c:PySem.W.codeIn K cdv qual=true) (k:PySem.W.keepIn K (.ref f)=true):In0 K C qual st:=⟨f,_,⟨mk,a,i,kc⟩,fun_mk l c k⟩
def MeD0 (K:PySem.W.Frag) (C:Addr) (m qual:Str) (st:Stmt):Prop:=∃ (f T:Addr) (t:Tok) (kV doc pm:Value) (an:Option Addr) (cdv ct:Value) (oc:Value) (od:Option Addr) (osl:Array (Option Value)) (tc:Value) (td:Option Addr) (n:Nat) (tsl:Array (Option Value)),Meth K C m f∧
 K.lookup f=some ⟨oc,od,.func (PySem.W.fnOf m qual (defArgs st) (defBody st) (defScope st) (.ref T) kV doc pm an cdv ct),osl⟩∧PySem.W.codeIn K cdv qual=true∧PySem.W.keepIn K (.ref f)=true∧K.lookup T=some ⟨tc,td,.seq #[.int 1 t] n,tsl⟩
theorem meD0_mk {C:Addr} {m qual:Str} {st:Stmt} {f T:Addr} {t:Tok} {oc tc:Value} {od an td:Option Addr} {osl tsl:Array (Option Value)} {n:Nat} {kV doc pm cdv ct:Value} (a:PySem.W.findIn K (.ref C) m=some (some (.ref f))) (i:PySem.W.isFn K (.ref f)=true)
  (l:K.lookup f=some ⟨oc,od,.func (PySem.W.fnOf m qual (defArgs st) (defBody st) (defScope st) (.ref T) kV doc pm an cdv ct),osl⟩)
  (c:PySem.W.codeIn K cdv qual=true) (k:PySem.W.keepIn K (.ref f)=true) (d:K.lookup T=some ⟨tc,td,.seq #[.int 1 t] n,tsl⟩):MeD0 K C m qual st:=⟨f,T,t,kV,doc,pm,an,cdv,ct,oc,od,osl,tc,td,n,tsl,⟨a,i,k⟩,l,c,k,d⟩
theorem meD0_dmX {C:Addr} {x qual:Str} {st:Stmt} {ps:List Str} {sp:Sp} {k:Nat} (F:MeD0 K C x qual st) (cl:Cls K C)
  (hb:∀ (T:Addr) (t:Tok) (kV doc pm:Value) (an:Option Addr) (cdv ct:Value) (us:List Value),us.length=ps.length→∃ kk,bindArgs (PySem.W.fnOf x qual (defArgs st) (defBody st) (defScope st) (.ref T) kV doc pm an cdv ct) ⟨us,[]⟩=seqItems? (.ref T) >>= kk∧kk (some #[.int 1 t])=pure (ps.zip us))
  (ok:∀ f fd,FunD K x qual st f fd→FnOk P w K mg base (CXE P w) k f fd ps sp):DmX P w K mg base k C x ps sp:=by
 obtain ⟨f,T,t,kV,doc,pm,an,cdv,ct,oc,od,osl,tc,td,n,tsl,m,l,c,kp,d⟩:=F
 refine ⟨f,_,cl,m,fun s us hin hl=>?_,ok f _ ⟨⟨oc,od,.ref T,kV,doc,pm,an,cdv,ct,osl,rfl,l,c⟩,kp⟩⟩
 rw [List.append_nil] at hl ⊢
 obtain ⟨kk,h1,h2⟩:=hb T t kV doc pm an cdv ct us hl
 exact BindsTo.of_defaults rfl (hin _ _ d) rfl h1 h2
def FnD0 (K:PySem.W.Frag) (x qual:Str) (st:Stmt):Prop:=∃ (f T:Addr) (kV doc pm:Value) (an:Option Addr) (cdv ct:Value) (oc:Value) (od:Option Addr) (osl:Array (Option Value)) (tc:Value) (td:Option Addr) (n:Nat) (tsl:Array (Option Value)),PySem.W.nsIn K mainGlobals x=some (some (.ref f))∧
 K.lookup f=some ⟨oc,od,.func (PySem.W.fnOf x qual (defArgs st) (defBody st) (defScope st) (.ref T) kV doc pm an cdv ct),osl⟩∧PySem.W.codeIn K cdv qual=true∧PySem.W.keepIn K (.ref f)=true∧K.lookup T=some ⟨tc,td,.seq #[.none] n,tsl⟩
theorem fnD0_mk {x qual:Str} {st:Stmt} {f T:Addr} {oc tc:Value} {od an td:Option Addr} {osl tsl:Array (Option Value)} {n:Nat} {kV doc pm cdv ct:Value} (a:PySem.W.nsIn K mainGlobals x=some (some (.ref f)))
  (l:K.lookup f=some ⟨oc,od,.func (PySem.W.fnOf x qual (defArgs st) (defBody st) (defScope st) (.ref T) kV doc pm an cdv ct),osl⟩)
  (c:PySem.W.codeIn K cdv qual=true) (k:PySem.W.keepIn K (.ref f)=true) (d:K.lookup T=some ⟨tc,td,.seq #[.none] n,tsl⟩):FnD0 K x qual st:=⟨f,T,kV,doc,pm,an,cdv,ct,oc,od,osl,tc,td,n,tsl,a,l,c,k,d⟩
theorem fnD0_dfX {x qual:Str} {st:Stmt} {ps:List Str} {sp:Sp} {k:Nat} (F:FnD0 K x qual st) (X:K.In h) (G:h.Ns mainGlobals mg)
  (hb:∀ (T:Addr) (kV doc pm:Value) (an:Option Addr) (cdv ct:Value) (us:List Value),us.length=ps.length→∃ kk,bindArgs (PySem.W.fnOf x qual (defArgs st) (defBody st) (defScope st) (.ref T) kV doc pm an cdv ct) ⟨us,[]⟩=seqItems? (.ref T) >>= kk∧kk (some #[.none])=pure (ps.zip us))
  (ok:∀ f fd,FunD K x qual st f fd→FnOk P w K mg base (CXE P w) k f fd ps sp):DfX P w K mg base k x ps sp:=by
 obtain ⟨f,T,kV,doc,pm,an,cdv,ct,oc,od,osl,tc,td,n,tsl,a,l,c,kp,d⟩:=F
 refine ⟨f,_,PySem.W.mg_of X G a,kp,fun s us hin hl=>?_,ok f _ ⟨⟨oc,od,.ref T,kV,doc,pm,an,cdv,ct,osl,rfl,l,c⟩,kp⟩⟩
 rw [List.append_nil] at hl ⊢
 obtain ⟨kk,h1,h2⟩:=hb T kV doc pm an cdv ct us hl
 exact BindsTo.of_defaults rfl (hin _ _ d) rfl h1 h2
theorem fnD0_dfXd {x qual:Str} {st:Stmt} {ps:List Str} {sp:Sp} {k:Nat} (F:FnD0 K x qual st) (X:K.In h) (G:h.Ns mainGlobals mg)
  (hb:∀ (T:Addr) (kV doc pm:Value) (an:Option Addr) (cdv ct:Value) (us:List Value),us.length + 1=ps.length→∃ kk,bindArgs (PySem.W.fnOf x qual (defArgs st) (defBody st) (defScope st) (.ref T) kV doc pm an cdv ct) ⟨us,[]⟩=seqItems? (.ref T) >>= kk∧kk (some #[.none])=pure (ps.zip (us ++ [.none])))
  (ok:∀ f fd,FunD K x qual st f fd→FnOk P w K mg base (CXE P w) k f fd ps sp):DfXd P w K mg base k x ps [.non] sp:=by
 obtain ⟨f,T,kV,doc,pm,an,cdv,ct,oc,od,osl,tc,td,n,tsl,a,l,c,kp,d⟩:=F
 refine ⟨f,_,[.none],PySem.W.mg_of X G a,kp,fun s us hin hl=>?_,.cons rfl .nil,ok f _ ⟨⟨oc,od,.ref T,kV,doc,pm,an,cdv,ct,osl,rfl,l,c⟩,kp⟩⟩
 obtain ⟨kk,h1,h2⟩:=hb T kV doc pm an cdv ct us (by rw [List.length_append] at hl; exact hl)
 exact BindsTo.of_defaults rfl (hin _ _ d) rfl h1 h2
def Xi0 (K:PySem.W.Frag) (C:Addr) (qual:Str) (st:Stmt):Prop:=∃ f fd,ExcMk K C f∧Fun K "__init__" qual st f fd
theorem xi0_mk {C:Addr} {qual:Str} {st:Stmt} {f:Addr} {oc:Value} {od an:Option Addr} {osl:Array (Option Value)} {kV doc pm cdv ct:Value} (a:PySem.W.findIn K (.ref C) "__init__"=some (some (.ref f))) (own:ownIn K C f=true) (i:PySem.W.isFn K (.ref f)=true) (kc:PySem.W.keepIn K (.ref C)=true)
  (l:K.lookup f=some ⟨oc,od,.func (PySem.W.fnOf "__init__" qual (defArgs st) (defBody st) (defScope st) .none kV doc pm an cdv ct),osl⟩)
  (c:PySem.W.codeIn K cdv qual=true) (k:PySem.W.keepIn K (.ref f)=true):Xi0 K C qual st:=⟨f,_,⟨own,i,kc⟩,fun_mk l c k⟩
theorem meD0_dmXd {C:Addr} {x qual:Str} {st:Stmt} {ps:List Str} {sp:Sp} {k:Nat} (F:MeD0 K C x qual st) (cl:Cls K C)
  (hb:∀ (T:Addr) (t:Tok) (kV doc pm:Value) (an:Option Addr) (cdv ct:Value) (us:List Value),us.length + 1=ps.length→∃ kk,bindArgs (PySem.W.fnOf x qual (defArgs st) (defBody st) (defScope st) (.ref T) kV doc pm an cdv ct) ⟨us,[]⟩=seqItems? (.ref T) >>= kk∧kk (some #[.int 1 t])=pure (ps.zip (us ++ [.int 1 t])))
  (ok:∀ f fd,FunD K x qual st f fd→FnOk P w K mg base (CXE P w) k f fd ps sp):DmXd P w K mg base k C x ps [.int 1] sp:=by
 obtain ⟨f,T,t,kV,doc,pm,an,cdv,ct,oc,od,osl,tc,td,n,tsl,m,l,c,kp,d⟩:=F
 refine ⟨f,_,[.int 1 t],cl,m,fun s us hin hl=>?_,.cons ⟨t,rfl⟩ .nil,ok f _ ⟨⟨oc,od,.ref T,kV,doc,pm,an,cdv,ct,osl,rfl,l,c⟩,kp⟩⟩
 obtain ⟨kk,h1,h2⟩:=hb T t kV doc pm an cdv ct us (by rw [List.length_append] at hl; exact hl)
 exact BindsTo.of_defaults rfl (hin _ _ d) rfl h1 h2
theorem xi0_di {C:Addr} {x qual:Str} {st:Stmt} {ps:List Str} {sp:Sp} {k:Nat} (F:Xi0 K C qual st) (X:K.In h) (G:h.Ns mainGlobals mg) (aC:PySem.W.nsIn K mainGlobals x=some (some (.ref C)))
  (hb:∀ (kV doc pm:Value) (an:Option Addr) (cdv ct:Value) (us:List Value),us.length=ps.length→bindArgs (PySem.W.fnOf "__init__" qual (defArgs st) (defBody st) (defScope st) .none kV doc pm an cdv ct) ⟨us,[]⟩=pure (ps.zip us))
  (ok:∀ f fd,Fun K "__init__" qual st f fd→FnOk P w K mg base CX0 k f fd ps sp):DiX P w K mg base k x C ps sp:=by
 obtain ⟨f,fd,m,F⟩:=F
 exact ⟨f,fd,PySem.W.mg_of X G aC,m,F.binds hb,ok f fd F⟩
theorem fn0_df {x qual:Str} {st:Stmt} {ps:List Str} {sp:Sp} {k:Nat} (F:Fn0 K x qual st) (X:K.In h) (G:h.Ns mainGlobals mg)
  (hb:∀ (kV doc pm:Value) (an:Option Addr) (cdv ct:Value) (us:List Value),us.length=ps.length→bindArgs (PySem.W.fnOf x qual (defArgs st) (defBody st) (defScope st) .none kV doc pm an cdv ct) ⟨us,[]⟩=pure (ps.zip us))
  (ok:∀ f fd,Fun K x qual st f fd→FnOk P w K mg base CX0 k f fd ps sp):Df P w K mg base k x ps sp:=by
 obtain ⟨f,fd,a,F⟩:=F
 exact ⟨f,fd,PySem.W.mg_of X G a,F.kp,F.binds hb,ok f fd F⟩
theorem me0_dm {C:Addr} {x qual:Str} {st:Stmt} {ps:List Str} {sp:Sp} {k:Nat} (F:Me0 K C x qual st) (cl:Cls K C)
  (hb:∀ (kV doc pm:Value) (an:Option Addr) (cdv ct:Value) (us:List Value),us.length=ps.length→bindArgs (PySem.W.fnOf x qual (defArgs st) (defBody st) (defScope st) .none kV doc pm an cdv ct) ⟨us,[]⟩=pure (ps.zip us))
  (ok:∀ f fd,Fun K x qual st f fd→FnOk P w K mg base CX0 k f fd ps sp):Dm P w K mg base k C x ps sp:=by
 obtain ⟨f,fd,m,F⟩:=F
 exact ⟨f,fd,cl,m,F.binds hb,ok f fd F⟩
theorem in0_dk {C:Addr} {x qual:Str} {st:Stmt} {ps:List Str} {sp:Sp} {k:Nat} (F:In0 K C qual st) (X:K.In h) (G:h.Ns mainGlobals mg) (aC:PySem.W.nsIn K mainGlobals x=some (some (.ref C)))
  (hb:∀ (kV doc pm:Value) (an:Option Addr) (cdv ct:Value) (us:List Value),us.length=ps.length→bindArgs (PySem.W.fnOf "__init__" qual (defArgs st) (defBody st) (defScope st) .none kV doc pm an cdv ct) ⟨us,[]⟩=pure (ps.zip us))
  (ok:∀ f fd,Fun K "__init__" qual st f fd→FnOk P w K mg base CX0 k f fd ps sp):Dk P w K mg base k x C ps sp:=by
 obtain ⟨f,fd,m,F⟩:=F
 exact ⟨f,fd,PySem.W.mg_of X G aC,m,F.binds hb,ok f fd F⟩
theorem me0_dmX {C:Addr} {x qual:Str} {st:Stmt} {ps:List Str} {sp:Sp} {k:Nat} (F:Me0 K C x qual st) (cl:Cls K C)
  (hb:∀ (kV doc pm:Value) (an:Option Addr) (cdv ct:Value) (us:List Value),us.length=ps.length→bindArgs (PySem.W.fnOf x qual (defArgs st) (defBody st) (defScope st) .none kV doc pm an cdv ct) ⟨us,[]⟩=pure (ps.zip us))
  (ok:∀ f fd,Fun K x qual st f fd→FnOk P w K mg base (CXE P w) k f fd ps sp):DmX P w K mg base k C x ps sp:=by
 obtain ⟨f,fd,m,F⟩:=F
 exact ⟨f,fd,cl,m,F.binds hb,ok f fd F⟩
end
@[elab_as_elim] theorem len1 {α:Type} {P:List α→Prop}:∀ (us:List α),us.length=1→(∀ a,P [a])→P us
 | [_],_,f=>f _
@[elab_as_elim] theorem len2 {α:Type} {P:List α→Prop}:∀ (us:List α),us.length=2→(∀ a b,P [a,b])→P us
 | [_,_],_,f=>f _ _
@[elab_as_elim] theorem len3 {α:Type} {P:List α→Prop}:∀ (us:List α),us.length=3→(∀ a b c,P [a,b,c])→P us
 | [_,_,_],_,f=>f _ _ _
@[elab_as_elim] theorem len4 {α:Type} {P:List α→Prop}:∀ (us:List α),us.length=4→(∀ a b c d,P [a,b,c,d])→P us
 | [_,_,_,_],_,f=>f _ _ _ _
@[elab_as_elim] theorem len5 {α:Type} {P:List α→Prop}:∀ (us:List α),us.length=5→(∀ a b c d e,P [a,b,c,d,e])→P us
 | [_,_,_,_,_],_,f=>f _ _ _ _ _
@[elab_as_elim] theorem len6 {α:Type} {P:List α→Prop}:∀ (us:List α),us.length=6→(∀ a b c d e f,P [a,b,c,d,e,f])→P us
 | [_,_,_,_,_,_],_,f=>f _ _ _ _ _ _
theorem all_mk {l:PySem.W.OpenLaw} {w:World} {K:PySem.W.Frag} {h:Heap} {mg:Str→Option Value} {fa CN CP CH CL:Addr} {xNN xTk xOH xTM xIH xRM xNo xNP xPE:Addr} {t_LETTERS t_LONGEST_NAME t_MOST_POSTS t_MOST_LISTENERS t_MOST_TIES t_LONGEST_DELAY:Tok} (X:K.In h) (G:h.Ns mainGlobals mg) (hfa:mg "law"=some (.ref fa))
  (aCN:PySem.W.nsIn K mainGlobals "Net"=some (some (.ref CN)))
  (aCP:PySem.W.nsIn K mainGlobals "Post"=some (some (.ref CP)))
  (aCH:PySem.W.nsIn K mainGlobals "House"=some (some (.ref CH)))
  (aCL:PySem.W.nsIn K mainGlobals "Listener"=some (some (.ref CL)))
  (pgCN:PySem.W.plainGet K CN Str.empty=true)
  (hdCN:PySem.W.hasDictIn K CN=true)
  (poCN:PySem.W.plainOver K CN=true)
  (saCN:PySem.W.findIn K (.ref CN) "__setattr__"=some (some (.builtin "object.__setattr__")))
  (pgCP:PySem.W.plainGet K CP Str.empty=true)
  (hdCP:PySem.W.hasDictIn K CP=true)
  (poCP:PySem.W.plainOver K CP=true)
  (saCP:PySem.W.findIn K (.ref CP) "__setattr__"=some (some (.builtin "object.__setattr__")))
  (pgCH:PySem.W.plainGet K CH Str.empty=true)
  (hdCH:PySem.W.hasDictIn K CH=true)
  (poCH:PySem.W.plainOver K CH=true)
  (saCH:PySem.W.findIn K (.ref CH) "__setattr__"=some (some (.builtin "object.__setattr__")))
  (pgCL:PySem.W.plainGet K CL Str.empty=true)
  (hdCL:PySem.W.hasDictIn K CL=true)
  (poCL:PySem.W.plainOver K CL=true)
  (saCL:PySem.W.findIn K (.ref CL) "__setattr__"=some (some (.builtin "object.__setattr__")))
  (nCN_kept_posts:PySem.W.findIn K (.ref CN) "kept_posts"=some none)
  (nCN_kept_ties:PySem.W.findIn K (.ref CN) "kept_ties"=some none)
  (nCN_next_number:PySem.W.findIn K (.ref CN) "next_number"=some none)
  (nCP_name:PySem.W.findIn K (.ref CP) "name"=some none)
  (nCH_name:PySem.W.findIn K (.ref CH) "name"=some none)
  (nCL_name:PySem.W.findIn K (.ref CL) "name"=some none)
  (e_NoName:PySem.W.nsIn K mainGlobals "NoName"=some (some (.ref xNN)))
  (xc_NoName:PySem.W.excIn K xNN mroVE "ValueError.__new__"=true)
  (e_Taken:PySem.W.nsIn K mainGlobals "Taken"=some (some (.ref xTk)))
  (xc_Taken:PySem.W.excIn K xTk mroVE "ValueError.__new__"=true)
  (e_OneHouse:PySem.W.nsIn K mainGlobals "OneHouse"=some (some (.ref xOH)))
  (xc_OneHouse:PySem.W.excIn K xOH mroVE "ValueError.__new__"=true)
  (e_TooMany:PySem.W.nsIn K mainGlobals "TooMany"=some (some (.ref xTM)))
  (xc_TooMany:PySem.W.excIn K xTM mroVE "ValueError.__new__"=true)
  (e_IntoHouse:PySem.W.nsIn K mainGlobals "IntoHouse"=some (some (.ref xIH)))
  (xc_IntoHouse:PySem.W.excIn K xIH mroVE "ValueError.__new__"=true)
  (e_RingMade:PySem.W.nsIn K mainGlobals "RingMade"=some (some (.ref xRM)))
  (xc_RingMade:PySem.W.excIn K xRM mroVE "ValueError.__new__"=true)
  (e_NoNumber:PySem.W.nsIn K mainGlobals "NoNumber"=some (some (.ref xNo)))
  (xc_NoNumber:PySem.W.excIn K xNo mroVE "ValueError.__new__"=true)
  (g_LETTERS:PySem.W.nsIn K mainGlobals "LETTERS"=some (some (.str "abcdefghijklmnopqrstuvwxyz" t_LETTERS)))
  (g_LONGEST_NAME:PySem.W.nsIn K mainGlobals "LONGEST_NAME"=some (some (.int 8 t_LONGEST_NAME)))
  (g_MOST_POSTS:PySem.W.nsIn K mainGlobals "MOST_POSTS"=some (some (.int 20 t_MOST_POSTS)))
  (g_MOST_LISTENERS:PySem.W.nsIn K mainGlobals "MOST_LISTENERS"=some (some (.int 8 t_MOST_LISTENERS)))
  (g_MOST_TIES:PySem.W.nsIn K mainGlobals "MOST_TIES"=some (some (.int 40 t_MOST_TIES)))
  (g_LONGEST_DELAY:PySem.W.nsIn K mainGlobals "LONGEST_DELAY"=some (some (.int 99 t_LONGEST_DELAY)))
  (k_str_str:PySem.W.kitOne K (.type "str") (.type "str")=some true)
  (k_int_int:PySem.W.kitOne K (.type "int") (.type "int")=some true)
  (k_int_bool:PySem.W.kitOne K (.type "int") (.type "bool")=some false)
  (k_list_list:PySem.W.kitOne K (.type "list") (.type "list")=some true)
  (k_tuple_tuple:PySem.W.kitOne K (.type "tuple") (.type "tuple")=some true)
  (ne_ph:CP ≠ CH)
  (ne_pl:CP ≠ CL)
  (ne_hl:CH ≠ CL)
  (aNP:PySem.W.nsIn K mainGlobals "NoPost"=some (some (.ref xNP)))
  (np_sa:PySem.W.findIn K (.ref xNP) "__setattr__"=some (some (.builtin "object.__setattr__")))
  (np_ov:excOver K xNP=true)
  (np_tk:PySem.W.takerIn K xNP "name"=some none)
  (np_hd:PySem.W.hasDictIn K xNP=true)
  (np_ga:PySem.W.findIn K (.ref xNP) "__getattribute__"=some (some (.builtin "BaseException.__getattribute__")))
  (np_gt:PySem.W.findIn K (.ref xNP) "__getattr__"=some none)
  (np_ec:PySem.W.findIn K (.ref xNP) "__class__"=some (some (.builtin "object.__class__")))
  (np_gg:PySem.W.specialIn K (.builtin "object.__class__") "__get__"=some (some (.builtin "getset_descriptor.__get__")))
  (np_tc:PySem.W.takesIn K (.builtin "object.__class__")=some true)
  (np_mo:PySem.W.mroIn K xNP (.type "object")=some true)
  (np_mb:PySem.W.mroIn K xNP (.type "BaseException")=some true)
  (np_na:PySem.W.findIn K (.ref xNP) "name"=some none)
  (np_em:PySem.W.exmOne K (.ref xNP) (.ref xNP)=some true)
  (aPE:PySem.W.nsIn K mainGlobals "PostError"=some (some (.ref xPE)))
  (np_kp:PySem.W.kitOne K (.ref xNP) (.ref xPE)=some true)
  (np_kv:PySem.W.kitOne K (.ref xNP) (.type "ValueError")=some true)
  (z_len:PySem.W.nsIn K mainGlobals "len"=some none)
  (z_isinstance:PySem.W.nsIn K mainGlobals "isinstance"=some none)
  (z_str:PySem.W.nsIn K mainGlobals "str"=some none)
  (z_all:PySem.W.nsIn K mainGlobals "all"=some none)
  (z_list:PySem.W.nsIn K mainGlobals "list"=some none)
  (z_int:PySem.W.nsIn K mainGlobals "int"=some none)
  (z_bool:PySem.W.nsIn K mainGlobals "bool"=some none)
  (z_enumerate:PySem.W.nsIn K mainGlobals "enumerate"=some none)
  (z_range:PySem.W.nsIn K mainGlobals "range"=some none)
  (z_sorted:PySem.W.nsIn K mainGlobals "sorted"=some none)
  (z_dict:PySem.W.nsIn K mainGlobals "dict"=some none)
  (z_tuple:PySem.W.nsIn K mainGlobals "tuple"=some none)
  (z_any:PySem.W.nsIn K mainGlobals "any"=some none)
  (z_set:PySem.W.nsIn K mainGlobals "set"=some none)
  (z_min:PySem.W.nsIn K mainGlobals "min"=some none)
  (z_max:PySem.W.nsIn K mainGlobals "max"=some none)
  (z_ValueError:PySem.W.nsIn K mainGlobals "ValueError"=some none)
  (f0:Fn0 K "is_name" "is_name" s_is_name)
  (f1:Me0 K CP "reads" "Post.reads" s_Post_reads)
  (f2:Me0 K CH "reads" "Post.reads" s_Post_reads)
  (f3:Me0 K CL "reads" "Listener.reads" s_Listener_reads)
  (f4:Me0 K CP "hears" "Post.hears" s_Post_hears)
  (f5:Me0 K CH "hears" "House.hears" s_House_hears)
  (f6:Me0 K CL "hears" "Post.hears" s_Post_hears)
  (f7:In0 K CP "Post.__init__" s_Post___init__)
  (f8:In0 K CH "Post.__init__" s_Post___init__)
  (f9:In0 K CL "Post.__init__" s_Post___init__)
  (f10:In0 K CN "Net.__init__" s_Net___init__)
  (f11:Me0 K CN "check_new_name" "Net.check_new_name" s_Net_check_new_name)
  (f12:Me0 K CN "names" "Net.names" s_Net_names)
  (f13:Me0 K CN "listeners" "Net.listeners" s_Net_listeners)
  (f14:Me0 K CN "home" "Net.home" s_Net_home)
  (f15:Me0 K CN "put_in" "Net.put_in" s_Net_put_in)
  (f16:Me0 K CN "post" "Net.post" s_Net_post)
  (f17:Me0 K CN "listener" "Net.listener" s_Net_listener)
  (f18:Me0 K CN "house" "Net.house" s_Net_house)
  (f19:Fn0 K "is_whole" "is_whole" s_is_whole)
  (f20:Fn0 K "is_delay" "is_delay" s_is_delay)
  (f21:Me0 K CN "ties" "Net.ties" s_Net_ties)
  (f22:Fn0 K "led_to" "led_to" s_led_to)
  (f23:Me0 K CN "check_there" "Net.check_there" s_Net_check_there)
  (f24:Me0 K CN "check_ends" "Net.check_ends" s_Net_check_ends)
  (f25:MeD0 K CN "tie" "Net.tie" s_Net_tie)
  (f26:MeD0 K CN "tie" "Net.tie" s_Net_tie)
  (f27:Fn0 K "standing_ties" "standing_ties" s_standing_ties)
  (f28:Fn0 K "step_over" "step_over" s_step_over)
  (f29:Fn0 K "tie_out_of" "tie_out_of" s_tie_out_of)
  (f30:Fn0 K "ties_between" "ties_between" s_ties_between)
  (f31:Fn0 K "one_way" "one_way" s_one_way)
  (f32:Fn0 K "used_with" "used_with" s_used_with)
  (f33:Fn0 K "reached_from" "reached_from" s_reached_from)
  (f34:Fn0 K "parted_ways" "parted_ways" s_parted_ways)
  (f35:Fn0 K "ties_by_post" "ties_by_post" s_ties_by_post)
  (f36:Xi0 K xNP "NoPost.__init__" s_NoPost___init__)
  (f37:FnD0 K "ways" "ways" s_ways)
  (f38:Fn0 K "_law_cell_at" "_law_cell_at" s_Lcell_at)
  (f39:Fn0 K "_law_mix" "_law_mix" s_Lmix)
  (f40:Fn0 K "_law_names" "_law_names" s_Lnames)
  (f41:Fn0 K "_law_put_in" "_law_put_in" s_Lput_in)
  (f42:Fn0 K "_law_ties" "_law_ties" s_Lties)
  (f43:Fn0 K "_law_comes" "_law_comes" s_Lcomes)
  (f44:Fn0 K "_law_wholes" "_law_wholes" s_Lwholes)
  (f45:Fn0 K "_law_way" "_law_way" s_Lway)
  (f46:Fn0 K "_law_right" "_law_right" s_Lright)
  (f47:Fn0 K "_law_refused" "_law_refused" s_Lrefused)
  (fl:Fn0 K "law" "law" s_law):
  ∃ fd:FuncData,(∀ (s:Shared) (v:Value),BindsTo s fd ⟨[v],[]⟩ [("_law_script",v)])∧∀ base:Heap,K.In base→base.Ns mainGlobals mg→FnOk l.prog w K mg base CX0 6 fa fd ["_law_script"] (sp_law K):=by
 obtain ⟨fL,fdL,aL,FL⟩:=fl
 have e:=hfa.symm.trans (PySem.W.mg_of X G aL)
 cases e
 have clCN:Cls K CN:=⟨pgCN,hdCN,poCN,saCN⟩
 have clCP:Cls K CP:=⟨pgCP,hdCP,poCP,saCP⟩
 have clCH:Cls K CH:=⟨pgCH,hdCH,poCH,saCH⟩
 have clCL:Cls K CL:=⟨pgCL,hdCL,poCL,saCL⟩
 have O:Cl.Ok K ⟨CN,CP,CH,CL⟩:=⟨clCN,clCP,clCH,clCL,nCN_kept_posts,nCN_kept_ties,nCN_next_number,nCP_name,nCH_name,nCL_name,ne_ph,ne_pl,ne_hl⟩
 have TL:TxtL mg:=⟨PySem.W.mg_none_of X G z_len,PySem.W.mg_none_of X G z_isinstance,PySem.W.mg_none_of X G z_str,PySem.W.mg_none_of X G z_all,PySem.W.mg_none_of X G z_list⟩
 have TG:TxtG mg:=⟨⟨_,PySem.W.mg_of X G g_LETTERS⟩,⟨_,PySem.W.mg_of X G g_LONGEST_NAME⟩,⟨_,PySem.W.mg_of X G g_MOST_POSTS⟩,⟨_,PySem.W.mg_of X G g_MOST_LISTENERS⟩⟩
 have TK:TxtK K:=⟨k_str_str⟩
 have TX:TxtX K mg ⟨xNN,xTk,xOH,xTM⟩:=⟨PySem.W.mg_of X G e_NoName,xc_NoName,PySem.W.mg_of X G e_Taken,xc_Taken,PySem.W.mg_of X G e_OneHouse,xc_OneHouse,PySem.W.mg_of X G e_TooMany,xc_TooMany⟩
 have TN:TxtN mg:=⟨PySem.W.mg_none_of X G z_isinstance,PySem.W.mg_none_of X G z_int,PySem.W.mg_none_of X G z_bool,PySem.W.mg_none_of X G z_len⟩
 have TH:TxtH mg:=⟨⟨_,PySem.W.mg_of X G g_MOST_TIES⟩,⟨_,PySem.W.mg_of X G g_LONGEST_DELAY⟩⟩
 have TI:TxtI K:=⟨k_int_int,k_int_bool⟩
 have TY:TxtY K mg ⟨xIH,xRM,xNo,xTM⟩:=⟨PySem.W.mg_of X G e_IntoHouse,xc_IntoHouse,PySem.W.mg_of X G e_RingMade,xc_RingMade,PySem.W.mg_of X G e_NoNumber,xc_NoNumber,PySem.W.mg_of X G e_TooMany,xc_TooMany⟩
 have TD:TxtD mg:=⟨PySem.W.mg_none_of X G z_dict,PySem.W.mg_none_of X G z_len,PySem.W.mg_none_of X G z_range⟩
 have TA:TxtA mg:=⟨PySem.W.mg_none_of X G z_len,PySem.W.mg_none_of X G z_range,PySem.W.mg_none_of X G z_list,PySem.W.mg_none_of X G z_sorted,PySem.W.mg_none_of X G z_enumerate,PySem.W.mg_none_of X G z_isinstance,PySem.W.mg_none_of X G z_int,PySem.W.mg_none_of X G z_bool,PySem.W.mg_none_of X G z_tuple,PySem.W.mg_none_of X G z_all,PySem.W.mg_none_of X G z_any,PySem.W.mg_none_of X G z_set,PySem.W.mg_none_of X G z_min,PySem.W.mg_none_of X G z_max⟩
 have TZ:TxtZ K:=⟨k_list_list,k_tuple_tuple⟩
 have EF:ExcF K xNP "name":=⟨np_sa,np_ov,np_tk,np_hd⟩
 have EA:ExcA K xNP "name":=⟨⟨np_ga,np_gt,np_ec,np_gg,np_tc,np_mo,np_mb,np_hd⟩,np_na⟩
 have TP:TxtP K mg xNP xPE:=⟨PySem.W.mg_of X G aNP,PySem.W.mg_of X G aPE,PySem.W.mg_none_of X G z_isinstance,PySem.W.mg_none_of X G z_ValueError,EA,np_em,np_kp,np_kv⟩
 refine ⟨fdL,fun s v=>?_,fun base _ _=>?_⟩
 ·obtain ⟨oc,od,kV,doc,pm,an,cdv,ct,osl,rfl,lk,hcd⟩:=FL.ex
  exact .of_eq rfl
 ·
  have D_is_name:Df l.prog w K mg base 1 "is_name" ["name"] sp_is_name:=fn0_df f0 X G (fun _ _ _ _ _ _ us hl=>len1 us hl (fun _=>rfl)) (fun f fd F=>ok_is_name F TL TG TK)
  have R_Post:Dm l.prog w K mg base 1 CP "reads" ["self"] (sp_readsC ⟨CN,CP,CH,CL⟩ CP):=me0_dm f1 clCP (fun _ _ _ _ _ _ us hl=>len1 us hl (fun _=>rfl)) (fun f fd F=>(ok_Post_reads F).imp (fun vs H Q E h=>by unfold sp_readsC at h; rw [show decide ((CP:Addr)=(⟨CN,CP,CH,CL⟩:Cl).lstn)=false from reads_of O .post] at h; exact h))
  have R_House:Dm l.prog w K mg base 1 CH "reads" ["self"] (sp_readsC ⟨CN,CP,CH,CL⟩ CH):=me0_dm f2 clCH (fun _ _ _ _ _ _ us hl=>len1 us hl (fun _=>rfl)) (fun f fd F=>(ok_Post_reads F).imp (fun vs H Q E h=>by unfold sp_readsC at h; rw [show decide ((CH:Addr)=(⟨CN,CP,CH,CL⟩:Cl).lstn)=false from reads_of O .house] at h; exact h))
  have R_Listener:Dm l.prog w K mg base 1 CL "reads" ["self"] (sp_readsC ⟨CN,CP,CH,CL⟩ CL):=me0_dm f3 clCL (fun _ _ _ _ _ _ us hl=>len1 us hl (fun _=>rfl)) (fun f fd F=>(ok_Listener_reads F).imp (fun vs H Q E h=>by unfold sp_readsC at h; rw [show decide ((CL:Addr)=(⟨CN,CP,CH,CL⟩:Cl).lstn)=true from reads_of O .listener] at h; exact h))
  have H_Post:Dm l.prog w K mg base 1 CP "hears" ["self"] (sp_hearsC ⟨CN,CP,CH,CL⟩ CP):=me0_dm f4 clCP (fun _ _ _ _ _ _ us hl=>len1 us hl (fun _=>rfl)) (fun f fd F=>(ok_Post_hears F).imp (fun vs H Q E h=>by unfold sp_hearsC at h; rw [show (!decide ((CP:Addr)=(⟨CN,CP,CH,CL⟩:Cl).house))=true from hears_of O .post] at h; exact h))
  have H_House:Dm l.prog w K mg base 1 CH "hears" ["self"] (sp_hearsC ⟨CN,CP,CH,CL⟩ CH):=me0_dm f5 clCH (fun _ _ _ _ _ _ us hl=>len1 us hl (fun _=>rfl)) (fun f fd F=>(ok_House_hears F).imp (fun vs H Q E h=>by unfold sp_hearsC at h; rw [show (!decide ((CH:Addr)=(⟨CN,CP,CH,CL⟩:Cl).house))=false from hears_of O .house] at h; exact h))
  have H_Listener:Dm l.prog w K mg base 1 CL "hears" ["self"] (sp_hearsC ⟨CN,CP,CH,CL⟩ CL):=me0_dm f6 clCL (fun _ _ _ _ _ _ us hl=>len1 us hl (fun _=>rfl)) (fun f fd F=>(ok_Post_hears F).imp (fun vs H Q E h=>by unfold sp_hearsC at h; rw [show (!decide ((CL:Addr)=(⟨CN,CP,CH,CL⟩:Cl).house))=true from hears_of O .listener] at h; exact h))
  have D_Post:Dk l.prog w K mg base 1 "Post" CP ["self","name"] (sp_pinit ⟨CN,CP,CH,CL⟩):=in0_dk f7 X G aCP (fun _ _ _ _ _ _ us hl=>len2 us hl (fun _ _=>rfl)) (fun f fd F=>ok_Post_init F O)
  have D_House:Dk l.prog w K mg base 1 "House" CH ["self","name"] (sp_pinit ⟨CN,CP,CH,CL⟩):=in0_dk f8 X G aCH (fun _ _ _ _ _ _ us hl=>len2 us hl (fun _ _=>rfl)) (fun f fd F=>ok_Post_init F O)
  have D_Listener:Dk l.prog w K mg base 1 "Listener" CL ["self","name"] (sp_pinit ⟨CN,CP,CH,CL⟩):=in0_dk f9 X G aCL (fun _ _ _ _ _ _ us hl=>len2 us hl (fun _ _=>rfl)) (fun f fd F=>ok_Post_init F O)
  have D_Net:Dk l.prog w K mg base 1 "Net" CN ["self"] (sp_ninit ⟨CN,CP,CH,CL⟩):=in0_dk f10 X G aCN (fun _ _ _ _ _ _ us hl=>len1 us hl (fun _=>rfl)) (fun f fd F=>ok_Net_init F O)
  have D_reads:∀ C,IsPost (⟨CN,CP,CH,CL⟩:Cl) C→Dm l.prog w K mg base 1 C "reads" ["self"] (sp_readsC ⟨CN,CP,CH,CL⟩ C):=by
   rintro _ ⟨k,rfl⟩
   cases k with
   | house=>exact R_House
   | listener=>exact R_Listener
   | post=>exact R_Post
  have D_hears:∀ C,IsPost (⟨CN,CP,CH,CL⟩:Cl) C→Dm l.prog w K mg base 1 C "hears" ["self"] (sp_hearsC ⟨CN,CP,CH,CL⟩ C):=by
   rintro _ ⟨k,rfl⟩
   cases k with
   | house=>exact H_House
   | listener=>exact H_Listener
   | post=>exact H_Post
  have D_Net_check_new_name:DmX l.prog w K mg base 2 CN "check_new_name" ["self","name"] (sp_cnn ⟨CN,CP,CH,CL⟩ ⟨xNN,xTk,xOH,xTM⟩):=me0_dmX f11 clCN (fun _ _ _ _ _ _ us hl=>len2 us hl (fun _ _=>rfl)) (fun f fd F=>ok_Net_check_new_name F O TX D_is_name)
  have D_Net_names:Dm l.prog w K mg base 1 CN "names" ["self"] (sp_names ⟨CN,CP,CH,CL⟩):=me0_dm f12 clCN (fun _ _ _ _ _ _ us hl=>len1 us hl (fun _=>rfl)) (fun f fd F=>ok_Net_names F O TL)
  have D_Net_listeners:Dm l.prog w K mg base 2 CN "listeners" ["self"] (sp_listeners ⟨CN,CP,CH,CL⟩):=me0_dm f13 clCN (fun _ _ _ _ _ _ us hl=>len1 us hl (fun _=>rfl)) (fun f fd F=>ok_Net_listeners F O D_reads)
  have D_Net_home:Dm l.prog w K mg base 2 CN "home" ["self"] (sp_home ⟨CN,CP,CH,CL⟩):=me0_dm f14 clCN (fun _ _ _ _ _ _ us hl=>len1 us hl (fun _=>rfl)) (fun f fd F=>ok_Net_home F O D_hears)
  have D_Net_put_in:DmX l.prog w K mg base 3 CN "put_in" ["self","post"] (sp_put_in ⟨CN,CP,CH,CL⟩ ⟨xNN,xTk,xOH,xTM⟩):=me0_dmX f15 clCN (fun _ _ _ _ _ _ us hl=>len2 us hl (fun _ _=>rfl)) (fun f fd F=>ok_Net_put_in F O TL TG TX D_reads D_Net_listeners)
  have D_Net_post:DmX l.prog w K mg base 4 CN "post" ["self","name"] (sp_new ⟨CN,CP,CH,CL⟩ ⟨xNN,xTk,xOH,xTM⟩ .post):=me0_dmX f16 clCN (fun _ _ _ _ _ _ us hl=>len2 us hl (fun _ _=>rfl)) (fun f fd F=>ok_Net_post F O D_Net_check_new_name D_Net_put_in D_Post)
  have D_Net_listener:DmX l.prog w K mg base 4 CN "listener" ["self","name"] (sp_new ⟨CN,CP,CH,CL⟩ ⟨xNN,xTk,xOH,xTM⟩ .listener):=me0_dmX f17 clCN (fun _ _ _ _ _ _ us hl=>len2 us hl (fun _ _=>rfl)) (fun f fd F=>ok_Net_listener F O D_Net_check_new_name D_Net_put_in D_Listener)
  have D_Net_house:DmX l.prog w K mg base 4 CN "house" ["self","name"] (sp_new ⟨CN,CP,CH,CL⟩ ⟨xNN,xTk,xOH,xTM⟩ .house):=me0_dmX f18 clCN (fun _ _ _ _ _ _ us hl=>len2 us hl (fun _ _=>rfl)) (fun f fd F=>ok_Net_house F O TX D_Net_check_new_name D_Net_put_in D_Net_home D_House)
  have D_is_whole:Df l.prog w K mg base 1 "is_whole" ["number"] sp_is_whole:=fn0_df f19 X G (fun _ _ _ _ _ _ us hl=>len1 us hl (fun _=>rfl)) (fun f fd F=>ok_is_whole F TN TI)
  have D_is_delay:Df l.prog w K mg base 2 "is_delay" ["number"] sp_is_delay:=fn0_df f20 X G (fun _ _ _ _ _ _ us hl=>len1 us hl (fun _=>rfl)) (fun f fd F=>ok_is_delay F TH D_is_whole)
  have D_Net_ties:Dm l.prog w K mg base 1 CN "ties" ["self"] (sp_ties ⟨CN,CP,CH,CL⟩):=me0_dm f21 clCN (fun _ _ _ _ _ _ us hl=>len1 us hl (fun _=>rfl)) (fun f fd F=>ok_Net_ties F O)
  have D_led_to:Df l.prog w K mg base 1 "led_to" ["ties","start"] sp_led_to:=fn0_df f22 X G (fun _ _ _ _ _ _ us hl=>len2 us hl (fun _ _=>rfl)) (fun f fd F=>ok_led_to F TN)
  have D_Net_check_there:Dm l.prog w K mg base 1 CN "check_there" ["self","name"] (sp_there ⟨CN,CP,CH,CL⟩):=me0_dm f23 clCN (fun _ _ _ _ _ _ us hl=>len2 us hl (fun _ _=>rfl)) (fun f fd F=>ok_Net_check_there F O)
  have D_Net_check_ends:DmX l.prog w K mg base 2 CN "check_ends" ["self","one","other"] (sp_ends ⟨CN,CP,CH,CL⟩ ⟨xIH,xRM,xNo,xTM⟩):=me0_dmX f24 clCN (fun _ _ _ _ _ _ us hl=>len3 us hl (fun _ _ _=>rfl)) (fun f fd F=>ok_Net_check_ends F O TY D_hears D_Net_check_there D_Net_ties D_led_to)
  have D_Net_tie:DmX l.prog w K mg base 3 CN "tie" ["self","one","other","delay"] (sp_tie ⟨CN,CP,CH,CL⟩ ⟨xIH,xRM,xNo,xTM⟩):=meD0_dmX f25 clCN (fun _ _ _ _ _ _ _ _ us hl=>len4 us hl (fun _ _ _ _=>⟨_,rfl,rfl⟩)) (fun f fd F=>ok_Net_tie F O TN TH TY D_Net_check_ends D_is_delay)
  have D_Net_tied:DmXd l.prog w K mg base 3 CN "tie" ["self","one","other","delay"] [.int 1] (sp_tie ⟨CN,CP,CH,CL⟩ ⟨xIH,xRM,xNo,xTM⟩):=meD0_dmXd f26 clCN (fun _ _ _ _ _ _ _ _ us hl=>len3 us (Nat.succ.inj hl) (fun _ _ _=>⟨_,rfl,rfl⟩)) (fun f fd F=>ok_Net_tie F O TN TH TY D_Net_check_ends D_is_delay)
  have D_standing_ties:Df l.prog w K mg base 2 "standing_ties" ["net","fallen"] (sp_standing_ties ⟨CN,CP,CH,CL⟩):=fn0_df f27 X G (fun _ _ _ _ _ _ us hl=>len2 us hl (fun _ _=>rfl)) (fun f fd F=>ok_standing_ties F D_Net_ties)
  have D_step_over:Df l.prog w K mg base 1 "step_over" ["tie","name","used"] sp_step_over:=fn0_df f28 X G (fun _ _ _ _ _ _ us hl=>len3 us hl (fun _ _ _=>rfl)) (fun f fd F=>ok_step_over F )
  have D_tie_out_of:Df l.prog w K mg base 1 "tie_out_of" ["ties","name"] sp_tie_out_of:=fn0_df f29 X G (fun _ _ _ _ _ _ us hl=>len2 us hl (fun _ _=>rfl)) (fun f fd F=>ok_tie_out_of F )
  have D_ties_between:Df l.prog w K mg base 1 "ties_between" ["ties","came"] sp_ties_between:=fn0_df f30 X G (fun _ _ _ _ _ _ us hl=>len2 us hl (fun _ _=>rfl)) (fun f fd F=>ok_ties_between F )
  have D_one_way:Df l.prog w K mg base 2 "one_way" ["ties","home","listener"] sp_one_way:=fn0_df f31 X G (fun _ _ _ _ _ _ us hl=>len3 us hl (fun _ _ _=>rfl)) (fun f fd F=>ok_one_way F D_tie_out_of)
  have D_used_with:Df l.prog w K mg base 1 "used_with" ["used","came","listener"] sp_used_with:=fn0_df f32 X G (fun _ _ _ _ _ _ us hl=>len3 us hl (fun _ _ _=>rfl)) (fun f fd F=>ok_used_with F TD)
  have D_reached_from:Df l.prog w K mg base 2 "reached_from" ["home","touching","used"] sp_reached_from:=fn0_df f33 X G (fun _ _ _ _ _ _ us hl=>len3 us hl (fun _ _ _=>rfl)) (fun f fd F=>ok_reached_from F TD D_step_over)
  have D_parted_ways:Df l.prog w K mg base 3 "parted_ways" ["ties","home","listener","many"] sp_parted_ways:=fn0_df f34 X G (fun _ _ _ _ _ _ us hl=>len4 us hl (fun _ _ _ _=>rfl)) (fun f fd F=>ok_parted_ways F TD D_one_way)
  have D_ties_by_post:Df l.prog w K mg base 1 "ties_by_post" ["names","ties"] sp_ties_by_post:=fn0_df f35 X G (fun _ _ _ _ _ _ us hl=>len2 us hl (fun _ _=>rfl)) (fun f fd F=>ok_ties_by_post F TD)
  have D_NoPost:DiX l.prog w K mg base 1 "NoPost" xNP ["self","name"] (sp_exinit xNP "name"):=xi0_di f36 X G aNP (fun _ _ _ _ _ _ us hl=>len2 us hl (fun _ _=>rfl)) (fun f fd F=>ok_NoPost_init F EF)
  have D_ways:DfX l.prog w K mg base 4 "ways" ["net","listener","many","fallen"] (sp_ways ⟨CN,CP,CH,CL⟩ xNP):=fnD0_dfX f37 X G (fun _ _ _ _ _ _ _ us hl=>len4 us hl (fun _ _ _ _=>⟨_,rfl,rfl⟩)) (fun f fd F=>ok_ways F TD D_NoPost D_Net_listeners D_Net_home D_Net_names D_standing_ties D_ties_by_post D_reached_from D_used_with D_ties_between D_parted_ways)
  have D_waysd:DfXd l.prog w K mg base 4 "ways" ["net","listener","many","fallen"] [.non] (sp_ways ⟨CN,CP,CH,CL⟩ xNP):=fnD0_dfXd f37 X G (fun _ _ _ _ _ _ _ us hl=>len3 us (Nat.succ.inj hl) (fun _ _ _=>⟨_,rfl,rfl⟩)) (fun f fd F=>ok_ways F TD D_NoPost D_Net_listeners D_Net_home D_Net_names D_standing_ties D_ties_by_post D_reached_from D_used_with D_ties_between D_parted_ways)
  have D_Lcell_at:Df l.prog w K mg base 1 "_law_cell_at" ["_law_script","_law_k"] (sp_Lcell_at K):=fn0_df f38 X G (fun _ _ _ _ _ _ us hl=>len2 us hl (fun _ _=>rfl)) (fun f fd F=>ok_Lcell_at F TA)
  have D_Lmix:Df l.prog w K mg base 1 "_law_mix" ["_law_cell","_law_k"] sp_Lmix:=fn0_df f39 X G (fun _ _ _ _ _ _ us hl=>len2 us hl (fun _ _=>rfl)) (fun f fd F=>ok_Lmix F TA)
  have D_Lnames:Df l.prog w K mg base 1 "_law_names" ["_law_first"] sp_Lnames:=fn0_df f40 X G (fun _ _ _ _ _ _ us hl=>len1 us hl (fun _=>rfl)) (fun f fd F=>ok_Lnames F TA)
  have D_Lput_in:Df l.prog w K mg base 5 "_law_put_in" ["_law_net","_law_names_here","_law_first"] (sp_Lput_in ⟨CN,CP,CH,CL⟩):=fn0_df f41 X G (fun _ _ _ _ _ _ us hl=>len3 us hl (fun _ _ _=>rfl)) (fun f fd F=>ok_Lput_in F TA D_Lmix D_Net_house D_Net_listener D_Net_post)
  have D_Lties:Df l.prog w K mg base 4 "_law_ties" ["_law_net","_law_names_here","_law_cells"] (sp_Lties K ⟨CN,CP,CH,CL⟩):=fn0_df f42 X G (fun _ _ _ _ _ _ us hl=>len3 us hl (fun _ _ _=>rfl)) (fun f fd F=>ok_Lties F TA D_Lmix D_Net_tie D_Net_tied)
  have D_Lcomes:Df l.prog w K mg base 1 "_law_comes" ["_law_ties_here","_law_house","_law_goal"] sp_Lcomes:=fn0_df f43 X G (fun _ _ _ _ _ _ us hl=>len3 us hl (fun _ _ _=>rfl)) (fun f fd F=>ok_Lcomes F TA)
  have D_Lwholes:Df l.prog w K mg base 1 "_law_wholes" ["_law_found"] sp_Lwholes:=fn0_df f44 X G (fun _ _ _ _ _ _ us hl=>len1 us hl (fun _=>rfl)) (fun f fd F=>ok_Lwholes F TA TI TZ)
  have D_Lway:Df l.prog w K mg base 2 "_law_way" ["_law_way_here","_law_left","_law_house","_law_goal"] sp_Lway:=fn0_df f45 X G (fun _ _ _ _ _ _ us hl=>len4 us hl (fun _ _ _ _=>rfl)) (fun f fd F=>ok_Lway F TA D_Lwholes)
  have D_Lright:Df l.prog w K mg base 3 "_law_right" ["_law_found","_law_left","_law_house","_law_goal","_law_many"] sp_Lright:=fn0_df f46 X G (fun _ _ _ _ _ _ us hl=>len5 us hl (fun _ _ _ _ _=>rfl)) (fun f fd F=>ok_Lright F TA TZ D_Lwholes D_Lway D_Lcomes)
  have D_Lrefused:Df l.prog w K mg base 5 "_law_refused" ["_law_net","_law_name"] (sp_Lrefused ⟨CN,CP,CH,CL⟩):=fn0_df f47 X G (fun _ _ _ _ _ _ us hl=>len2 us hl (fun _ _=>rfl)) (fun f fd F=>ok_Lrefused F TP D_waysd)
  exact ok_law (c:=⟨CN,CP,CH,CL⟩) (NP:=xNP) FL TA D_Lcell_at D_Lmix D_Lnames D_Net D_Lput_in D_Lties D_Lrefused D_ways D_waysd D_Lright D_Net_listeners D_Net_ties
theorem walk {l:PySem.W.OpenLaw} {q:Program} {loose:List Str} {XP:(Str→Option Value)→Heap→Prop} {YP:World→Heap→Prop} {d:DefRec} {K:Params→PySem.W.Frag} (hn:l.most=some 63) (hdf:d.params.defaults=[])
  (hY:∀ (w:World) (h:Heap),YP w h→(K w.params).In h)
  (F:∀ (w:World) (mg:Str→Option Value) (fa:Addr) (h:Heap),(K w.params).In h→h.Ns mainGlobals mg→mg d.name=some (.ref fa)→
   ∃ fd:FuncData,(∀ (s:Shared) (u:Value),BindsTo s fd ⟨[u],[]⟩ [("_law_script",u)])∧∀ base:Heap,(K w.params).In base→base.Ns mainGlobals mg→FnOk l.prog w (K w.params) mg base CX0 6 fa fd ["_law_script"] (sp_law (K w.params))):
  PySem.W.WalkO q loose XP YP l.row.toRowW d [] (fun f vs=>PySem.call f vs):=
 L2.walk_of (n:=63) (k:=6) (x:="_law_script") (CX:=fun _=>CX0) (sp:=fun w=>sp_law (K w.params)) hn (by decide) hdf ⟨rfl,by decide,by decide⟩ hY F (fun _ _ a ns hl _ hS=>⟨a,ns,rfl,hS,hl,fun _=>rfl⟩) fun _ _ _ _ _ z=>z
end K31
open PySem PySem.W PyProof.Rows L2
set_option maxRecDepth 100000 in
set_option maxHeartbeats 0 in
theorem PySem.Challenge.cw_mixposts_k31_ways_or_a_cut_holds : PySem.Challenge.rw_mixposts_k31_ways_or_a_cut.Holds := by
  w_on; o_law; k_head; (case hw => w_witness2)
  k_fill
  refine K31.walk (l := PySem.Challenge.rw_mixposts_k31_ways_or_a_cut) rfl rfl (fun w h Y => PySem.W.kIn_of Y) ?F
  case F =>
    intro w mg fa h KX G hmg
    refine' K31.all_mk KX G hmg ?aCN ?aCP ?aCH ?aCL ?pgCN ?hdCN ?poCN ?saCN ?pgCP ?hdCP ?poCP ?saCP ?pgCH ?hdCH ?poCH ?saCH ?pgCL ?hdCL ?poCL ?saCL ?nCN_kept_posts ?nCN_kept_ties ?nCN_next_number ?nCP_name ?nCH_name ?nCL_name ?e_NoName ?xc_NoName ?e_Taken ?xc_Taken ?e_OneHouse ?xc_OneHouse ?e_TooMany ?xc_TooMany ?e_IntoHouse ?xc_IntoHouse ?e_RingMade ?xc_RingMade ?e_NoNumber ?xc_NoNumber ?g_LETTERS ?g_LONGEST_NAME ?g_MOST_POSTS ?g_MOST_LISTENERS ?g_MOST_TIES ?g_LONGEST_DELAY ?k_str_str ?k_int_int ?k_int_bool ?k_list_list ?k_tuple_tuple ?ne_ph ?ne_pl ?ne_hl ?aNP ?np_sa ?np_ov ?np_tk ?np_hd ?np_ga ?np_gt ?np_ec ?np_gg ?np_tc ?np_mo ?np_mb ?np_na ?np_em ?aPE ?np_kp ?np_kv ?z_len ?z_isinstance ?z_str ?z_all ?z_list ?z_int ?z_bool ?z_enumerate ?z_range ?z_sorted ?z_dict ?z_tuple ?z_any ?z_set ?z_min ?z_max ?z_ValueError (fn0_mk ?A0 ?L0 ?C0 ?K0) (me0_mk ?A1 ?I1 ?L1 ?C1 ?K1) (me0_mk ?A2 ?I2 ?L2 ?C2 ?K2) (me0_mk ?A3 ?I3 ?L3 ?C3 ?K3) (me0_mk ?A4 ?I4 ?L4 ?C4 ?K4) (me0_mk ?A5 ?I5 ?L5 ?C5 ?K5) (me0_mk ?A6 ?I6 ?L6 ?C6 ?K6) (K31.in0_mk ?M7 ?A7 ?I7 ?KC7 ?L7 ?C7 ?K7) (K31.in0_mk ?M8 ?A8 ?I8 ?KC8 ?L8 ?C8 ?K8) (K31.in0_mk ?M9 ?A9 ?I9 ?KC9 ?L9 ?C9 ?K9) (K31.in0_mk ?M10 ?A10 ?I10 ?KC10 ?L10 ?C10 ?K10) (me0_mk ?A11 ?I11 ?L11 ?C11 ?K11) (me0_mk ?A12 ?I12 ?L12 ?C12 ?K12) (me0_mk ?A13 ?I13 ?L13 ?C13 ?K13) (me0_mk ?A14 ?I14 ?L14 ?C14 ?K14) (me0_mk ?A15 ?I15 ?L15 ?C15 ?K15) (me0_mk ?A16 ?I16 ?L16 ?C16 ?K16) (me0_mk ?A17 ?I17 ?L17 ?C17 ?K17) (me0_mk ?A18 ?I18 ?L18 ?C18 ?K18) (fn0_mk ?A19 ?L19 ?C19 ?K19) (fn0_mk ?A20 ?L20 ?C20 ?K20) (me0_mk ?A21 ?I21 ?L21 ?C21 ?K21) (fn0_mk ?A22 ?L22 ?C22 ?K22) (me0_mk ?A23 ?I23 ?L23 ?C23 ?K23) (me0_mk ?A24 ?I24 ?L24 ?C24 ?K24) (K31.meD0_mk ?A25 ?I25 ?L25 ?C25 ?K25 ?D25) (K31.meD0_mk ?A26 ?I26 ?L26 ?C26 ?K26 ?D26) (fn0_mk ?A27 ?L27 ?C27 ?K27) (fn0_mk ?A28 ?L28 ?C28 ?K28) (fn0_mk ?A29 ?L29 ?C29 ?K29) (fn0_mk ?A30 ?L30 ?C30 ?K30) (fn0_mk ?A31 ?L31 ?C31 ?K31) (fn0_mk ?A32 ?L32 ?C32 ?K32) (fn0_mk ?A33 ?L33 ?C33 ?K33) (fn0_mk ?A34 ?L34 ?C34 ?K34) (fn0_mk ?A35 ?L35 ?C35 ?K35) (K31.xi0_mk ?A36 ?O36 ?I36 ?KC36 ?L36 ?C36 ?K36) (K31.fnD0_mk ?A37 ?L37 ?C37 ?K37 ?D37) (fn0_mk ?A38 ?L38 ?C38 ?K38) (fn0_mk ?A39 ?L39 ?C39 ?K39) (fn0_mk ?A40 ?L40 ?C40 ?K40) (fn0_mk ?A41 ?L41 ?C41 ?K41) (fn0_mk ?A42 ?L42 ?C42 ?K42) (fn0_mk ?A43 ?L43 ?C43 ?K43) (fn0_mk ?A44 ?L44 ?C44 ?K44) (fn0_mk ?A45 ?L45 ?C45 ?K45) (fn0_mk ?A46 ?L46 ?C46 ?K46) (fn0_mk ?A47 ?L47 ?C47 ?K47) (fn0_mk ?al ?ll ?cl ?kl)
    (case aCN => first | k_is | kit_is)
    (case aCP => first | k_is | kit_is)
    (case aCH => first | k_is | kit_is)
    (case aCL => first | k_is | kit_is)
    (case pgCN => first | k_is | kit_is)
    (case hdCN => first | k_is | kit_is)
    (case poCN => first | k_is | kit_is)
    (case saCN => first | k_is | kit_is)
    (case pgCP => first | k_is | kit_is)
    (case hdCP => first | k_is | kit_is)
    (case poCP => first | k_is | kit_is)
    (case saCP => first | k_is | kit_is)
    (case pgCH => first | k_is | kit_is)
    (case hdCH => first | k_is | kit_is)
    (case poCH => first | k_is | kit_is)
    (case saCH => first | k_is | kit_is)
    (case pgCL => first | k_is | kit_is)
    (case hdCL => first | k_is | kit_is)
    (case poCL => first | k_is | kit_is)
    (case saCL => first | k_is | kit_is)
    (case nCN_kept_posts => first | k_is | kit_is)
    (case nCN_kept_ties => first | k_is | kit_is)
    (case nCN_next_number => first | k_is | kit_is)
    (case nCP_name => first | k_is | kit_is)
    (case nCH_name => first | k_is | kit_is)
    (case nCL_name => first | k_is | kit_is)
    (case e_NoName => first | k_is | kit_is)
    (case xc_NoName => k_exc)
    (case e_Taken => first | k_is | kit_is)
    (case xc_Taken => k_exc)
    (case e_OneHouse => first | k_is | kit_is)
    (case xc_OneHouse => k_exc)
    (case e_TooMany => first | k_is | kit_is)
    (case xc_TooMany => k_exc)
    (case e_IntoHouse => first | k_is | kit_is)
    (case xc_IntoHouse => k_exc)
    (case e_RingMade => first | k_is | kit_is)
    (case xc_RingMade => k_exc)
    (case e_NoNumber => first | k_is | kit_is)
    (case xc_NoNumber => k_exc)
    (case g_LETTERS => first | k_is | kit_is)
    (case g_LONGEST_NAME => first | k_is | kit_is)
    (case g_MOST_POSTS => first | k_is | kit_is)
    (case g_MOST_LISTENERS => first | k_is | kit_is)
    (case g_MOST_TIES => first | k_is | kit_is)
    (case g_LONGEST_DELAY => first | k_is | kit_is)
    (case k_str_str => first | k_is | kit_is)
    (case k_int_int => first | k_is | kit_is)
    (case k_int_bool => first | k_is | kit_is)
    (case k_list_list => first | k_is | kit_is)
    (case k_tuple_tuple => first | k_is | kit_is)
    (case ne_ph => first | decide | omega | (intro h; cases h))
    (case ne_pl => first | decide | omega | (intro h; cases h))
    (case ne_hl => first | decide | omega | (intro h; cases h))
    (case aNP => first | k_is | kit_is)
    (case np_sa => first | k_is | kit_is)
    (case np_ov => first | kernel_rfl | rfl)
    (case np_tk => first | k_is | kit_is | kernel_rfl)
    (case np_hd => first | k_is | kit_is)
    (case np_ga => first | k_is | kit_is)
    (case np_gt => first | k_is | kit_is)
    (case np_ec => first | k_is | kit_is)
    (case np_gg => first | k_is | kit_is)
    (case np_tc => first | k_is | kit_is)
    (case np_mo => first | k_is | kit_is)
    (case np_mb => first | k_is | kit_is)
    (case np_na => first | k_is | kit_is)
    (case np_em => kts_exm)
    (case aPE => first | k_is | kit_is)
    (case np_kp => first | k_is | kit_is)
    (case np_kv => first | k_is | kit_is)
    (case z_len => first | k_is | kit_is)
    (case z_isinstance => first | k_is | kit_is)
    (case z_str => first | k_is | kit_is)
    (case z_all => first | k_is | kit_is)
    (case z_list => first | k_is | kit_is)
    (case z_int => first | k_is | kit_is)
    (case z_bool => first | k_is | kit_is)
    (case z_enumerate => first | k_is | kit_is)
    (case z_range => first | k_is | kit_is)
    (case z_sorted => first | k_is | kit_is)
    (case z_dict => first | k_is | kit_is)
    (case z_tuple => first | k_is | kit_is)
    (case z_any => first | k_is | kit_is)
    (case z_set => first | k_is | kit_is)
    (case z_min => first | k_is | kit_is)
    (case z_max => first | k_is | kit_is)
    (case z_ValueError => first | k_is | kit_is)
    (case A0 => first | k_is | kit_is)
    (case L0 => first | k_is | kit_is)
    (case C0 => first | k_is | kit_is)
    (case K0 => first | k_is | kit_is)
    (case A1 => first | k_is | kit_is)
    (case I1 => first | k_is | kit_is)
    (case L1 => first | k_is | kit_is)
    (case C1 => first | k_is | kit_is)
    (case K1 => first | k_is | kit_is)
    (case A2 => first | k_is | kit_is)
    (case I2 => first | k_is | kit_is)
    (case L2 => first | k_is | kit_is)
    (case C2 => first | k_is | kit_is)
    (case K2 => first | k_is | kit_is)
    (case A3 => first | k_is | kit_is)
    (case I3 => first | k_is | kit_is)
    (case L3 => first | k_is | kit_is)
    (case C3 => first | k_is | kit_is)
    (case K3 => first | k_is | kit_is)
    (case A4 => first | k_is | kit_is)
    (case I4 => first | k_is | kit_is)
    (case L4 => first | k_is | kit_is)
    (case C4 => first | k_is | kit_is)
    (case K4 => first | k_is | kit_is)
    (case A5 => first | k_is | kit_is)
    (case I5 => first | k_is | kit_is)
    (case L5 => first | k_is | kit_is)
    (case C5 => first | k_is | kit_is)
    (case K5 => first | k_is | kit_is)
    (case A6 => first | k_is | kit_is)
    (case I6 => first | k_is | kit_is)
    (case L6 => first | k_is | kit_is)
    (case C6 => first | k_is | kit_is)
    (case K6 => first | k_is | kit_is)
    (case A7 => first | k_is | kit_is)
    (case M7 => first | k_is | kit_is)
    (case I7 => first | k_is | kit_is)
    (case KC7 => first | k_is | kit_is)
    (case L7 => first | k_is | kit_is)
    (case C7 => first | k_is | kit_is)
    (case K7 => first | k_is | kit_is)
    (case A8 => first | k_is | kit_is)
    (case M8 => first | k_is | kit_is)
    (case I8 => first | k_is | kit_is)
    (case KC8 => first | k_is | kit_is)
    (case L8 => first | k_is | kit_is)
    (case C8 => first | k_is | kit_is)
    (case K8 => first | k_is | kit_is)
    (case A9 => first | k_is | kit_is)
    (case M9 => first | k_is | kit_is)
    (case I9 => first | k_is | kit_is)
    (case KC9 => first | k_is | kit_is)
    (case L9 => first | k_is | kit_is)
    (case C9 => first | k_is | kit_is)
    (case K9 => first | k_is | kit_is)
    (case A10 => first | k_is | kit_is)
    (case M10 => first | k_is | kit_is)
    (case I10 => first | k_is | kit_is)
    (case KC10 => first | k_is | kit_is)
    (case L10 => first | k_is | kit_is)
    (case C10 => first | k_is | kit_is)
    (case K10 => first | k_is | kit_is)
    (case A11 => first | k_is | kit_is)
    (case I11 => first | k_is | kit_is)
    (case L11 => first | k_is | kit_is)
    (case C11 => first | k_is | kit_is)
    (case K11 => first | k_is | kit_is)
    (case A12 => first | k_is | kit_is)
    (case I12 => first | k_is | kit_is)
    (case L12 => first | k_is | kit_is)
    (case C12 => first | k_is | kit_is)
    (case K12 => first | k_is | kit_is)
    (case A13 => first | k_is | kit_is)
    (case I13 => first | k_is | kit_is)
    (case L13 => first | k_is | kit_is)
    (case C13 => first | k_is | kit_is)
    (case K13 => first | k_is | kit_is)
    (case A14 => first | k_is | kit_is)
    (case I14 => first | k_is | kit_is)
    (case L14 => first | k_is | kit_is)
    (case C14 => first | k_is | kit_is)
    (case K14 => first | k_is | kit_is)
    (case A15 => first | k_is | kit_is)
    (case I15 => first | k_is | kit_is)
    (case L15 => first | k_is | kit_is)
    (case C15 => first | k_is | kit_is)
    (case K15 => first | k_is | kit_is)
    (case A16 => first | k_is | kit_is)
    (case I16 => first | k_is | kit_is)
    (case L16 => first | k_is | kit_is)
    (case C16 => first | k_is | kit_is)
    (case K16 => first | k_is | kit_is)
    (case A17 => first | k_is | kit_is)
    (case I17 => first | k_is | kit_is)
    (case L17 => first | k_is | kit_is)
    (case C17 => first | k_is | kit_is)
    (case K17 => first | k_is | kit_is)
    (case A18 => first | k_is | kit_is)
    (case I18 => first | k_is | kit_is)
    (case L18 => first | k_is | kit_is)
    (case C18 => first | k_is | kit_is)
    (case K18 => first | k_is | kit_is)
    (case A19 => first | k_is | kit_is)
    (case L19 => first | k_is | kit_is)
    (case C19 => first | k_is | kit_is)
    (case K19 => first | k_is | kit_is)
    (case A20 => first | k_is | kit_is)
    (case L20 => first | k_is | kit_is)
    (case C20 => first | k_is | kit_is)
    (case K20 => first | k_is | kit_is)
    (case A21 => first | k_is | kit_is)
    (case I21 => first | k_is | kit_is)
    (case L21 => first | k_is | kit_is)
    (case C21 => first | k_is | kit_is)
    (case K21 => first | k_is | kit_is)
    (case A22 => first | k_is | kit_is)
    (case L22 => first | k_is | kit_is)
    (case C22 => first | k_is | kit_is)
    (case K22 => first | k_is | kit_is)
    (case A23 => first | k_is | kit_is)
    (case I23 => first | k_is | kit_is)
    (case L23 => first | k_is | kit_is)
    (case C23 => first | k_is | kit_is)
    (case K23 => first | k_is | kit_is)
    (case A24 => first | k_is | kit_is)
    (case I24 => first | k_is | kit_is)
    (case L24 => first | k_is | kit_is)
    (case C24 => first | k_is | kit_is)
    (case K24 => first | k_is | kit_is)
    (case A25 => first | k_is | kit_is)
    (case I25 => first | k_is | kit_is)
    (case L25 => first | k_is | kit_is)
    (case C25 => first | k_is | kit_is)
    (case K25 => first | k_is | kit_is)
    (case D25 => first | k_is | kit_is)
    (case A26 => first | k_is | kit_is)
    (case I26 => first | k_is | kit_is)
    (case L26 => first | k_is | kit_is)
    (case C26 => first | k_is | kit_is)
    (case K26 => first | k_is | kit_is)
    (case D26 => first | k_is | kit_is)
    (case A27 => first | k_is | kit_is)
    (case L27 => first | k_is | kit_is)
    (case C27 => first | k_is | kit_is)
    (case K27 => first | k_is | kit_is)
    (case A28 => first | k_is | kit_is)
    (case L28 => first | k_is | kit_is)
    (case C28 => first | k_is | kit_is)
    (case K28 => first | k_is | kit_is)
    (case A29 => first | k_is | kit_is)
    (case L29 => first | k_is | kit_is)
    (case C29 => first | k_is | kit_is)
    (case K29 => first | k_is | kit_is)
    (case A30 => first | k_is | kit_is)
    (case L30 => first | k_is | kit_is)
    (case C30 => first | k_is | kit_is)
    (case K30 => first | k_is | kit_is)
    (case A31 => first | k_is | kit_is)
    (case L31 => first | k_is | kit_is)
    (case C31 => first | k_is | kit_is)
    (case K31 => first | k_is | kit_is)
    (case A32 => first | k_is | kit_is)
    (case L32 => first | k_is | kit_is)
    (case C32 => first | k_is | kit_is)
    (case K32 => first | k_is | kit_is)
    (case A33 => first | k_is | kit_is)
    (case L33 => first | k_is | kit_is)
    (case C33 => first | k_is | kit_is)
    (case K33 => first | k_is | kit_is)
    (case A34 => first | k_is | kit_is)
    (case L34 => first | k_is | kit_is)
    (case C34 => first | k_is | kit_is)
    (case K34 => first | k_is | kit_is)
    (case A35 => first | k_is | kit_is)
    (case L35 => first | k_is | kit_is)
    (case C35 => first | k_is | kit_is)
    (case K35 => first | k_is | kit_is)
    (case A36 => first | k_is | kit_is)
    (case O36 => first | kernel_rfl | rfl)
    (case I36 => first | k_is | kit_is)
    (case KC36 => first | k_is | kit_is)
    (case L36 => first | k_is | kit_is)
    (case C36 => first | k_is | kit_is)
    (case K36 => first | k_is | kit_is)
    (case A37 => first | k_is | kit_is)
    (case L37 => first | k_is | kit_is)
    (case C37 => first | k_is | kit_is)
    (case K37 => first | k_is | kit_is)
    (case D37 => first | k_is | kit_is)
    (case A38 => first | k_is | kit_is)
    (case L38 => first | k_is | kit_is)
    (case C38 => first | k_is | kit_is)
    (case K38 => first | k_is | kit_is)
    (case A39 => first | k_is | kit_is)
    (case L39 => first | k_is | kit_is)
    (case C39 => first | k_is | kit_is)
    (case K39 => first | k_is | kit_is)
    (case A40 => first | k_is | kit_is)
    (case L40 => first | k_is | kit_is)
    (case C40 => first | k_is | kit_is)
    (case K40 => first | k_is | kit_is)
    (case A41 => first | k_is | kit_is)
    (case L41 => first | k_is | kit_is)
    (case C41 => first | k_is | kit_is)
    (case K41 => first | k_is | kit_is)
    (case A42 => first | k_is | kit_is)
    (case L42 => first | k_is | kit_is)
    (case C42 => first | k_is | kit_is)
    (case K42 => first | k_is | kit_is)
    (case A43 => first | k_is | kit_is)
    (case L43 => first | k_is | kit_is)
    (case C43 => first | k_is | kit_is)
    (case K43 => first | k_is | kit_is)
    (case A44 => first | k_is | kit_is)
    (case L44 => first | k_is | kit_is)
    (case C44 => first | k_is | kit_is)
    (case K44 => first | k_is | kit_is)
    (case A45 => first | k_is | kit_is)
    (case L45 => first | k_is | kit_is)
    (case C45 => first | k_is | kit_is)
    (case K45 => first | k_is | kit_is)
    (case A46 => first | k_is | kit_is)
    (case L46 => first | k_is | kit_is)
    (case C46 => first | k_is | kit_is)
    (case K46 => first | k_is | kit_is)
    (case A47 => first | k_is | kit_is)
    (case L47 => first | k_is | kit_is)
    (case C47 => first | k_is | kit_is)
    (case K47 => first | k_is | kit_is)
    (case al => first | k_is | kit_is)
    (case ll => first | k_is | kit_is)
    (case cl => first | k_is | kit_is)
    (case kl => first | k_is | kit_is)
