import PyProof.Rows.All
import Wide.All
import OpenK.AllK
import Wide.FinOn
import Lean
import PyProof.EqAt
import PyProof.EqKinds
import PyProof.TupleCall
import PyProof.ZipIter
import PyProof.NeKinds
import PySem.Challenge.RW_mixposts_k42_what_ties_carry
import PyProof.Logic
import PyProof.StationsW
import PyProof.ExcBaseAll.ValueError
import PyProof.ExcInit
import PyProof.ExcClass2
import PyProof.InstStoreFacts
import PyProof.ExcAttrAll.ValueError
import KE.KDictList
import PyProof.StrWalks
import PyProof.ConsumeWalk
import PyProof.EnumFor
import PyProof.EnumStmt
import PyProof.StrLawsIdx
import PyProof.SliceStr2
import PyProof.MeetsStr
import PyProof.FactsAll.str_5
import PyProof.StrBlockL
import PyProof.StrLawsTight
import PyProof.FitsReplace
import PyProof.Rows.StrItems
import KE.KIntText
import KE.KDictOf
import PyProof.AttrMissHeap
import KE.KDictSum
import PyProof.Rows.SortWalk
import PyProof.SetKind
import PyProof.SetNew
import PyProof.SetRoads
import PyProof.CollectWalk
import PyProof.Rows.TupIn
import PyProof.DictStraight
import PyProof.Rows.SetFrom
import PyProof.WalkLemmas
import KE.KListMore
import PyProof.SeqI3
import KE.KEqDict
import PyProof.DictItems
import KE.KPairComp
set_option Elab.async false
set_option linter.all false
set_option maxRecDepth 100000
set_option maxHeartbeats 4000000
/-! The head would lay a copy of each heap on the way, with a proof of its own that it is the same: some forty megabytes that the kernel does not need. Where a name is taken, it lays none. -/
theorem PySem.W.Fast.tw10020438376073277703 : True := trivial
theorem PySem.W.Fast.tw10024059169013704333 : True := trivial
theorem PySem.W.Fast.tw10082224602401868581 : True := trivial
theorem PySem.W.Fast.tw10085454633857365686 : True := trivial
theorem PySem.W.Fast.tw10102590709442826904 : True := trivial
theorem PySem.W.Fast.tw10212739164441620521 : True := trivial
theorem PySem.W.Fast.tw10388177423140317789 : True := trivial
theorem PySem.W.Fast.tw10414878019030387668 : True := trivial
theorem PySem.W.Fast.tw10438027617826414155 : True := trivial
theorem PySem.W.Fast.tw10567608251686030314 : True := trivial
theorem PySem.W.Fast.tw10583034649363487364 : True := trivial
theorem PySem.W.Fast.tw10595537662321196022 : True := trivial
theorem PySem.W.Fast.tw1069954980124348443 : True := trivial
theorem PySem.W.Fast.tw10760172459794195227 : True := trivial
theorem PySem.W.Fast.tw10765356737407134352 : True := trivial
theorem PySem.W.Fast.tw10798694437090000870 : True := trivial
theorem PySem.W.Fast.tw10821805152999424657 : True := trivial
theorem PySem.W.Fast.tw11076491060965320078 : True := trivial
theorem PySem.W.Fast.tw11078771432102746347 : True := trivial
theorem PySem.W.Fast.tw11136479325223070178 : True := trivial
theorem PySem.W.Fast.tw11174196123307570228 : True := trivial
theorem PySem.W.Fast.tw11229649135010583884 : True := trivial
theorem PySem.W.Fast.tw11274584686153684053 : True := trivial
theorem PySem.W.Fast.tw11365361010248173841 : True := trivial
theorem PySem.W.Fast.tw11400878762871399668 : True := trivial
theorem PySem.W.Fast.tw11418310540682952009 : True := trivial
theorem PySem.W.Fast.tw11473248429641298950 : True := trivial
theorem PySem.W.Fast.tw11555651475595442948 : True := trivial
theorem PySem.W.Fast.tw11780786505471908028 : True := trivial
theorem PySem.W.Fast.tw12017927512407624946 : True := trivial
theorem PySem.W.Fast.tw12049422324021920243 : True := trivial
theorem PySem.W.Fast.tw12056075190388100646 : True := trivial
theorem PySem.W.Fast.tw12432085235040600025 : True := trivial
theorem PySem.W.Fast.tw1246287705841305681 : True := trivial
theorem PySem.W.Fast.tw12579810370467994898 : True := trivial
theorem PySem.W.Fast.tw12707743167511940988 : True := trivial
theorem PySem.W.Fast.tw12821633189978587888 : True := trivial
theorem PySem.W.Fast.tw12928321282055773333 : True := trivial
theorem PySem.W.Fast.tw12939580729369092850 : True := trivial
theorem PySem.W.Fast.tw13074544384441732695 : True := trivial
theorem PySem.W.Fast.tw13087229519608719762 : True := trivial
theorem PySem.W.Fast.tw13187892030677800017 : True := trivial
theorem PySem.W.Fast.tw13215486749996985972 : True := trivial
theorem PySem.W.Fast.tw13546380020918125114 : True := trivial
theorem PySem.W.Fast.tw13579614128226607181 : True := trivial
theorem PySem.W.Fast.tw1365817121010253384 : True := trivial
theorem PySem.W.Fast.tw13699636388436714407 : True := trivial
theorem PySem.W.Fast.tw13940333439944312807 : True := trivial
theorem PySem.W.Fast.tw14002467347063175492 : True := trivial
theorem PySem.W.Fast.tw14028252794786666468 : True := trivial
theorem PySem.W.Fast.tw14047977611833638689 : True := trivial
theorem PySem.W.Fast.tw14055192263212034496 : True := trivial
theorem PySem.W.Fast.tw14057479212520036542 : True := trivial
theorem PySem.W.Fast.tw14156985322163076388 : True := trivial
theorem PySem.W.Fast.tw14261900769803173034 : True := trivial
theorem PySem.W.Fast.tw14481334167785142206 : True := trivial
theorem PySem.W.Fast.tw14499651144343176263 : True := trivial
theorem PySem.W.Fast.tw14590474380733568373 : True := trivial
theorem PySem.W.Fast.tw14595317131702857302 : True := trivial
theorem PySem.W.Fast.tw14602507045571393663 : True := trivial
theorem PySem.W.Fast.tw14711488117865363577 : True := trivial
theorem PySem.W.Fast.tw14991209380889697362 : True := trivial
theorem PySem.W.Fast.tw15243092261712018048 : True := trivial
theorem PySem.W.Fast.tw15312615490587814969 : True := trivial
theorem PySem.W.Fast.tw15538443280223475545 : True := trivial
theorem PySem.W.Fast.tw15550177894076710379 : True := trivial
theorem PySem.W.Fast.tw15610486094822999832 : True := trivial
theorem PySem.W.Fast.tw15651577302402141856 : True := trivial
theorem PySem.W.Fast.tw15824403501179113973 : True := trivial
theorem PySem.W.Fast.tw15834641684592452828 : True := trivial
theorem PySem.W.Fast.tw15891358792696861979 : True := trivial
theorem PySem.W.Fast.tw15898717648343660777 : True := trivial
theorem PySem.W.Fast.tw1591148676289704099 : True := trivial
theorem PySem.W.Fast.tw16201487845984643531 : True := trivial
theorem PySem.W.Fast.tw16454747814832948758 : True := trivial
theorem PySem.W.Fast.tw16465038694018264879 : True := trivial
theorem PySem.W.Fast.tw16479095529020313761 : True := trivial
theorem PySem.W.Fast.tw16488602702006926339 : True := trivial
theorem PySem.W.Fast.tw16598959861740169728 : True := trivial
theorem PySem.W.Fast.tw16708657161247225435 : True := trivial
theorem PySem.W.Fast.tw16749246967378356291 : True := trivial
theorem PySem.W.Fast.tw16754604201423467886 : True := trivial
theorem PySem.W.Fast.tw16829215031880454095 : True := trivial
theorem PySem.W.Fast.tw16852845924718585530 : True := trivial
theorem PySem.W.Fast.tw1695306438365301736 : True := trivial
theorem PySem.W.Fast.tw17052353300456925210 : True := trivial
theorem PySem.W.Fast.tw17390580141905962396 : True := trivial
theorem PySem.W.Fast.tw1740327573299387192 : True := trivial
theorem PySem.W.Fast.tw1741992312594931282 : True := trivial
theorem PySem.W.Fast.tw17616156430189937647 : True := trivial
theorem PySem.W.Fast.tw17740574556049764559 : True := trivial
theorem PySem.W.Fast.tw17848421667029448428 : True := trivial
theorem PySem.W.Fast.tw1812567011297069207 : True := trivial
theorem PySem.W.Fast.tw18189681783815024477 : True := trivial
theorem PySem.W.Fast.tw18229871665214708275 : True := trivial
theorem PySem.W.Fast.tw18431887597340463279 : True := trivial
theorem PySem.W.Fast.tw1848988058967756484 : True := trivial
theorem PySem.W.Fast.tw2111055929720399811 : True := trivial
theorem PySem.W.Fast.tw2127282859878136651 : True := trivial
theorem PySem.W.Fast.tw2245318825717662579 : True := trivial
theorem PySem.W.Fast.tw225795784650445267 : True := trivial
theorem PySem.W.Fast.tw2267913766935352302 : True := trivial
theorem PySem.W.Fast.tw2348804771204445600 : True := trivial
theorem PySem.W.Fast.tw2350358517308875394 : True := trivial
theorem PySem.W.Fast.tw2722008364898343856 : True := trivial
theorem PySem.W.Fast.tw3094627951436253994 : True := trivial
theorem PySem.W.Fast.tw3098254800730435361 : True := trivial
theorem PySem.W.Fast.tw3231060587715291101 : True := trivial
theorem PySem.W.Fast.tw3408116195298791396 : True := trivial
theorem PySem.W.Fast.tw3636519176965236950 : True := trivial
theorem PySem.W.Fast.tw3669587074660177982 : True := trivial
theorem PySem.W.Fast.tw3857950598725909919 : True := trivial
theorem PySem.W.Fast.tw3898073661674390134 : True := trivial
theorem PySem.W.Fast.tw3910345086137953708 : True := trivial
theorem PySem.W.Fast.tw3930163661006334736 : True := trivial
theorem PySem.W.Fast.tw4122698523971181228 : True := trivial
theorem PySem.W.Fast.tw4230762015470811707 : True := trivial
theorem PySem.W.Fast.tw4231381798943167596 : True := trivial
theorem PySem.W.Fast.tw4309134909157794834 : True := trivial
theorem PySem.W.Fast.tw4723067351530435350 : True := trivial
theorem PySem.W.Fast.tw492736709656771605 : True := trivial
theorem PySem.W.Fast.tw4929639700837472829 : True := trivial
theorem PySem.W.Fast.tw4998812790094394636 : True := trivial
theorem PySem.W.Fast.tw5109334200424764829 : True := trivial
theorem PySem.W.Fast.tw5168561028447482479 : True := trivial
theorem PySem.W.Fast.tw5607163580711462562 : True := trivial
theorem PySem.W.Fast.tw5716873500672341317 : True := trivial
theorem PySem.W.Fast.tw5801955855858787567 : True := trivial
theorem PySem.W.Fast.tw6120815582801825863 : True := trivial
theorem PySem.W.Fast.tw6188540933132822586 : True := trivial
theorem PySem.W.Fast.tw6427741839484641680 : True := trivial
theorem PySem.W.Fast.tw6430066619098927450 : True := trivial
theorem PySem.W.Fast.tw655114536554635604 : True := trivial
theorem PySem.W.Fast.tw6605369873062439737 : True := trivial
theorem PySem.W.Fast.tw668358814029329361 : True := trivial
theorem PySem.W.Fast.tw6702119099462114169 : True := trivial
theorem PySem.W.Fast.tw681486562015369401 : True := trivial
theorem PySem.W.Fast.tw6931633405593759226 : True := trivial
theorem PySem.W.Fast.tw6996986370113431504 : True := trivial
theorem PySem.W.Fast.tw7028886478382681528 : True := trivial
theorem PySem.W.Fast.tw7058801410078047645 : True := trivial
theorem PySem.W.Fast.tw7062900561536558807 : True := trivial
theorem PySem.W.Fast.tw7471286282378874189 : True := trivial
theorem PySem.W.Fast.tw7524034746652945247 : True := trivial
theorem PySem.W.Fast.tw7580163740008128330 : True := trivial
theorem PySem.W.Fast.tw7690309108447455706 : True := trivial
theorem PySem.W.Fast.tw7738222436878686251 : True := trivial
theorem PySem.W.Fast.tw7835427520618117850 : True := trivial
theorem PySem.W.Fast.tw797121829034604121 : True := trivial
theorem PySem.W.Fast.tw7988707304676669341 : True := trivial
theorem PySem.W.Fast.tw806733296799680422 : True := trivial
theorem PySem.W.Fast.tw8115021915525658097 : True := trivial
theorem PySem.W.Fast.tw8198164324911061447 : True := trivial
theorem PySem.W.Fast.tw879727174036368470 : True := trivial
theorem PySem.W.Fast.tw885832000207472243 : True := trivial
theorem PySem.W.Fast.tw9078291690755828309 : True := trivial
theorem PySem.W.Fast.tw9180613884943776795 : True := trivial
theorem PySem.W.Fast.tw9188660600637117570 : True := trivial
theorem PySem.W.Fast.tw9259348851098258520 : True := trivial
theorem PySem.W.Fast.tw9456066814122944796 : True := trivial
theorem PySem.W.Fast.tw9598252260489333359 : True := trivial
theorem PySem.W.Fast.tw9644998948395378310 : True := trivial
theorem PySem.W.Fast.tw9654145796957232795 : True := trivial
theorem PySem.W.Fast.tw979286913666433967 : True := trivial
theorem PySem.W.Fast.tw9833584040534326456 : True := trivial
namespace L2
open PySem PySem.Spec PyProof.Rows
abbrev Key:=Sum Int Str
def ly:Key→Value→Bool
 | .inl k,v=>Value.isInt k v
 | .inr x,v=>Value.isStrOf x v
def keyH (w:World):Key→Int
 | .inl k=>hashInt k
 | .inr x=>hashStr w x
theorem aX:∀ {k:Key}{v:Value},ly k v=true→(∃ i t,k=Sum.inl i∧v=Value.int i t)∨(∃ x t,k=Sum.inr x∧v=Value.str x t)
 | .inl i,v,h=>by
  obtain⟨t,e⟩:=Value.isInt_shape (k:=i) (v:=v) h
  exact .inl ⟨i,t,rfl,e⟩
 | .inr x,v,h=>by
  obtain⟨t,e⟩:=Value.isStrOf_shape (x:=x) (v:=v) h
  exact .inr ⟨x,t,rfl,e⟩
theorem sr (i:Int)(t:Tok):ly (.inl i) (.int i t)=true:=by simp[ly,Value.isInt]
theorem sq (x:Str)(t:Tok):ly (.inr x) (.str x t)=true:=by simp[ly,Value.isStrOf]
theorem key_ll (a b:Int):decide ((Sum.inl a:Key)=Sum.inl b)=(a==b):=by
 by_cases e:a=b
 ·subst e;simp
 ·have h:¬ (Sum.inl a:Key)=Sum.inl b:=fun q=>e (Sum.inl.inj q)
  rw[decide_eq_false h]
  exact (beq_eq_false_iff_ne.mpr e).symm
theorem key_rr (a b:Str):decide ((Sum.inr a:Key)=Sum.inr b)=decide (a=b):=by
 by_cases e:a=b
 ·subst e;simp
 ·have h:¬ (Sum.inr a:Key)=Sum.inr b:=fun q=>e (Sum.inr.inj q)
  rw[decide_eq_false h,decide_eq_false e]
theorem key_lr (a:Int)(b:Str):decide ((Sum.inl a:Key)=Sum.inr b)=false:=decide_eq_false (fun q=>nomatch q)
theorem key_rl (a:Str)(b:Int):decide ((Sum.inr a:Key)=Sum.inl b)=false:=decide_eq_false (fun q=>nomatch q)
def aM (prog:Program)(w:World):PySem.KeyKind prog w Key where
 is:=ly
 hash:=keyH w
 inj:=fun v a b ha hb=>by
  rcases aX ha with⟨i,t,rfl,rfl⟩|⟨x,t,rfl,rfl⟩
  ·rcases aX hb with⟨j,u,rfl,e⟩|⟨y,u,rfl,e⟩
   ·injection e with e1 _;rw[e1]
   ·exact nomatch e
  ·rcases aX hb with⟨j,u,rfl,e⟩|⟨y,u,rfl,e⟩
   ·exact nomatch e
   ·injection e with e1 _;rw[e1]
 byValue:=fun k v h=>by
  rcases aX h with⟨i,t,rfl,rfl⟩|⟨x,t,rfl,rfl⟩ <;> rfl
 pyHash:=fun hv h=>by
  rcases aX hv with⟨i,t,rfl,rfl⟩|⟨x,t,rfl,rfl⟩
  ·exact wpAny_pyHash_int h
  ·exact wpAny_pyHash_str h
 eqBool:=fun hu hv h=>by
  rcases aX hu with⟨i,t,rfl,rfl⟩|⟨x,t,rfl,rfl⟩
  ·rcases aX hv with⟨j,u,rfl,rfl⟩|⟨y,u,rfl,rfl⟩
   ·rw[key_ll]at h;exact wpAny_eqBool_int h
   ·rw[key_lr]at h;exact SeqAt.EqAt.int_str i t y u _ _ _ _ h
  ·rcases aX hv with⟨j,u,rfl,rfl⟩|⟨y,u,rfl,rfl⟩
   ·rw[key_rl]at h;exact SeqAt.EqAt.str_int x t j u _ _ _ _ h
   ·rw[key_rr]at h;exact wpAny_eqBool_str h
 «strs»:=fun k x t v h=>by
  rcases aX h with⟨i,u,rfl,e⟩|⟨y,u,rfl,e⟩
  ·exact nomatch e
  ·injection e with e1 _
   subst e1
   cases v <;> rfl
theorem og (prog:Program)(w:World)(i:Int)(t:Tok):(aM prog w).is (.inl i) (.int i t)=true:=sr i t
theorem oa (prog:Program)(w:World)(x:Str)(t:Tok):(aM prog w).is (.inr x) (.str x t)=true:=sq x t
inductive V where
  | non | bl (b : Bool) | int (i : Int) | str (x : Str) | byt (b : Array UInt8) | flt (b : UInt64) | ref (a : Addr) | ty (n : String)
  deriving DecidableEq
def RelV:V→Value→Prop
 | .non,u=>u=Value.none
 | .bl b,u=>u=Value.bool b
 | .int i,u=>∃ t,u=Value.int i t
 | .str x,u=>∃ t,u=Value.str x t
 | .byt b,u=>∃ t,u=Value.bytes b t
 | .flt b,u=>∃ t,u=Value.float b t
 | .ref a,u=>u=Value.ref a
 | .ty n,u=>u=Value.type n
abbrev Vals:List V→List Value→Prop:=Paired RelV
theorem Vals.length {xs:List V}{us:List Value} (r:Vals xs us):xs.length=us.length:=Paired.length r
theorem Vals.get:∀ {xs:List V}{us:List Value}{i:Nat}{x:V},Vals xs us→xs[i]?=some x→∃ u,us[i]?=some u∧RelV x u
 | _,_,_,_,.nil,e=>by simp at e
 | _,_,0,_,.cons r _,e=>by simp at e;subst e;exact⟨_,rfl,r⟩
 | _,_,i+1,x,.cons _ t,e=>by
  obtain⟨u,h1,h2⟩:=Vals.get (i:=i) (x:=x) t (by simpa using e)
  exact⟨u,by simpa using h1,h2⟩
theorem Vals.append:∀ {xs ys:List V}{us ws:List Value},Vals xs us→Vals ys ws→Vals (xs++ys) (us++ws)
 | _,_,_,_,.nil,s=>s
 | _,_,_,_,.cons r t,s=>.cons r (Vals.append t s)
theorem Vals.take:∀ {xs:List V}{us:List Value} (n:Nat),Vals xs us→Vals (xs.take n) (us.take n)
 | _,_,0,_=>.nil
 | _,_,_+1,.nil=>.nil
 | _,_,n+1,.cons r t=>.cons r (Vals.take n t)
theorem Vals.drop:∀ {xs:List V}{us:List Value} (n:Nat),Vals xs us→Vals (xs.drop n) (us.drop n)
 | _,_,0,r=>r
 | _,_,_+1,.nil=>.nil
 | _,_,n+1,.cons _ t=>Vals.drop n t
def RelO:Option V→Option Value→Prop
 | some v,some u=>RelV v u
 | none,none=>True
 | _,_=>False
def KV {κ:Type}:List (κ×V)→List (κ×Value)→Prop:=Paired fun (p:κ×V) (q:κ×Value)=>p.1=q.1∧RelV p.2 q.2
def kV:Key→V
 | .inl i=>.int i
 | .inr x=>.str x
inductive HO where
  | lst (xs : List V)
  | tup (xs : List V)
  | dK (kvs : List (Key × V)) | dT (kvs : List (List Key × V))
  | set (S : Int → Bool) (n : Nat)
  | ins (C dx : Addr) (fs : List (Str × V))
  | own (x : Addr)
  | xd (fs : List (Str × V))
  | met (f x : Addr)
  | rng (lo hi : Int)
  | frz (o : Obj) (u : HO)
  | tbl (ps : Array Value)
  | ext (φ : Heap → Prop)
abbrev Hp:=Addr→Option HO
def upd (H:Hp)(a:Addr)(o:HO):Hp:=fun b=>if b=a then some o else H b
theorem a9 {H:Hp}{a:Addr}{o:HO}:upd H a o a=some o:=by unfold upd;rw[if_pos rfl]
theorem aa {H:Hp}{a b:Addr}{o:HO} (h:b≠a):upd H a o b=H b:=by unfold upd;rw[if_neg h]
theorem uC {H:Hp}{a:Addr}{o u:HO}:upd (upd H a o) a u=upd H a u:=by
 funext b;unfold upd;split <;> rfl
theorem bb {H:Hp}{a b:Addr}{o u:HO} (h:H a=some o) (h':H b=some u) (d:o≠u):a≠b:=by
 intro e;subst e;rw[h]at h';exact d (Option.some.inj h')
theorem ag {H:Hp}{a b:Addr}{o:HO} (h:H a=some o) (h':H b=none):a≠b:=by
 intro e;subst e;rw[h]at h';cases h'
section
variable (P : Program)(w : World)
def ObjOk (H:Hp)(h:Heap)(a:Addr):HO→Prop
 | .lst xs=>xs.length≤sizeLine∧∃ (its:List Value)(n:Nat),Vals xs its∧h.get? a=some { cls:=.type "list",data:=.seq its.toArray n }
 | .tup xs=>xs.length≤sizeLine∧∃ its:List Value,Vals xs its∧IsTup h a its.toArray
 | .dK kvs=>kvs.length≤sizeLine∧(a==sysModules)=false∧∃ vs,KV kvs vs∧h.DictOf (aM P w) a vs
 | .dT kvs=>kvs.length≤sizeLine∧(a==sysModules)=false∧∃ xs:List (List Key×Addr×Value),
   Paired (fun (p:List Key×V) (q:List Key×Addr×Value)=>p.1=q.1∧H q.2.1=some (.tup (p.1.map kV))∧RelV p.2 q.2.2) kvs xs∧
   ∃ o es ep,h.get? a=some o∧o.ExactDict∧o.data=.dict es ep∧es.toList=xs.map (entryOfKey (tupleKind (aM P w)))∧(xs.map (·.1)).Nodup
 | .set S n=>h.SetOf (intKind P w) a S n
 | .ins C dx fs=>H dx=some (.own a)∧fs.length≤1000∧dx≠a∧h.get? a=some (PySem.W.instObj C dx)∧
   ∃ mA,h.Ns1 dx mA∧(∀ f,RelO (fs.lookup f) (mA f))∧PySem.Within mA (fs.map (·.1))
 | .own _=>∃ o,h.get? a=some o
 | .xd fs=>∃ mA,h.Ns1 a mA∧∀ f,RelO (fs.lookup f) (mA f)
 | .rng lo hi=>∃ t u v,h.get? a=some { cls:=.type "range",data:=.fields #[.int lo t,.int hi u,.int 1 v] }
 | .frz o u=>h.get? a=some o∧ObjOk H h a u
 | .tbl ps=>h.get? a=some { cls:=.none,data:=.fields ps }
 | .met f x=>h.get? a=some (PySem.W.methodObj (.ref f) (.ref x))
 | .ext φ=>φ h∧(∃ o,h.get? a=some o)∧∀ h1 h2:Heap,φ h1→(∀ o,h1.get? a=some o→h2.get? a=some o)→φ h2
def HOk (H:Hp)(h:Heap):Prop:=∀ a o,H a=some o→ObjOk P w H h a o
end
section
variable {P : Program}{w : World}{H H' : Hp}{h h' : Heap}{a : Addr}{o : HO}
theorem ObjOk.lt (x:ObjOk P w H h a o):a<h.objs.size:=by
 cases o with
 | lst xs=>obtain⟨_,_,_,_,e⟩:=x;exact Heap.lt_size e
 | tup xs=>obtain⟨_,_,_,p⟩:=x;exact p.lt
 | dK kvs=>obtain⟨_,_,_,_,o,_,_,e,_⟩:=x;exact Heap.lt_size e
 | dT kvs=>obtain⟨_,_,_,_,o,_,_,e,_⟩:=x;exact Heap.lt_size e
 | set S n=>obtain⟨o,_,_,_,e,_⟩:=x;exact Heap.lt_size e
 | ins C dx fs=>obtain⟨_,_,_,e,_⟩:=x;exact Heap.lt_size e
 | own y=>obtain⟨_,e⟩:=x;exact Heap.lt_size e
 | xd fs=>obtain⟨_,⟨_,_,_,e,_⟩,_⟩:=x;exact Heap.lt_size e
 | rng lo hi=>obtain⟨_,_,_,e⟩:=x;exact Heap.lt_size e
 | frz ob u=>obtain⟨e,_⟩:=x;exact Heap.lt_size e
 | tbl ps=>exact Heap.lt_size (show h.get? a=some _ from x)
 | met f y=>exact Heap.lt_size (show h.get? a=some _ from x)
 | ext φ=>obtain⟨_,⟨_,e⟩,_⟩:=x;exact Heap.lt_size e
theorem Paired.mapP {α β:Type}{F G:α→β→Prop}:∀ {l₁:List α}{l₂:List β},Paired F l₁ l₂→(∀ a b,F a b→G a b)→Paired G l₁ l₂
 | _,_,.nil,_=>.nil
 | _,_,.cons r t,f=>.cons (f _ _ r) (Paired.mapP t f)
theorem ObjOk.stay (x:ObjOk P w H h a o)(k:∀ b u,(b=a∨H b=some (.own a))→h.get? b=some u→h'.get? b=some u)
  (ho:∀ b,H b=some (.own a)→H' b=some (.own a)) (ht:∀ b xs,H b=some (.tup xs)→H' b=some (.tup xs)):ObjOk P w H' h' a o:=by
 induction o with
 | lst xs=>obtain⟨z,its,n,r,e⟩:=x;exact⟨z,its,n,r,k _ _ (.inl rfl) e⟩
 | tup xs=>obtain⟨z,its,r,ob,e,c⟩:=x;exact⟨z,its,r,ob,k _ _ (.inl rfl) e,c⟩
 | dK kvs=>obtain⟨z,y,vs,r,ob,es,ep,e,c⟩:=x;exact⟨z,y,vs,r,ob,es,ep,k _ _ (.inl rfl) e,c⟩
 | dT kvs=>
  obtain⟨z,y,xs,r,ob,es,ep,e,c⟩:=x
  exact⟨z,y,xs,Paired.mapP r fun p q z=>⟨z.1,ht _ _ z.2.1,z.2.2⟩,ob,es,ep,k _ _ (.inl rfl) e,c⟩
 | set S n=>obtain⟨ob,es,ep,t,e,c⟩:=x;exact⟨ob,es,ep,t,k _ _ (.inl rfl) e,c⟩
 | ins C dx fs=>
  obtain⟨d,z,ne,e,mA,⟨od,es,ep,e2,c⟩,r⟩:=x
  exact⟨ho _ d,z,ne,k _ _ (.inl rfl) e,mA,⟨od,es,ep,k _ _ (.inr d) e2,c⟩,r⟩
 | own y=>obtain⟨ob,e⟩:=x;exact⟨ob,k _ _ (.inl rfl) e⟩
 | xd fs=>obtain⟨mA,⟨od,es,ep,e,c⟩,r⟩:=x;exact⟨mA,⟨od,es,ep,k _ _ (.inl rfl) e,c⟩,r⟩
 | rng lo hi=>obtain⟨t,u,v,e⟩:=x;exact⟨t,u,v,k _ _ (.inl rfl) e⟩
 | frz ob u ih=>obtain⟨e,q⟩:=x;exact⟨k _ _ (.inl rfl) e,ih q⟩
 | tbl ps=>
  have e:h.get? a=some { cls:=.none,data:=.fields ps }:=x
  show h'.get? a=some { cls:=.none,data:=.fields ps }
  exact k a _ (.inl rfl) e
 | met f y=>
  have e:h.get? a=some (PySem.W.methodObj (.ref f) (.ref y)):=x
  show h'.get? a=some (PySem.W.methodObj (.ref f) (.ref y))
  exact k a _ (.inl rfl) e
 | ext φ=>obtain⟨p,⟨o,e⟩,st⟩:=x;exact⟨st _ _ p fun o q=>k _ _ (.inl rfl) q,⟨o,k _ _ (.inl rfl) e⟩,st⟩
theorem HOk.lt (x:HOk P w H h)(e:H a=some o):a<h.objs.size:=(x a o e).lt
theorem HOk.fresh (x:HOk P w H h)(e:h.objs.size≤a):H a=none:=by
 cases q:H a with
 | none=>rfl
 | some u=>exact absurd (Nat.lt_of_lt_of_le (x.lt q) e) (Nat.lt_irrefl _)
theorem HOk.kept (x:HOk P w H h)(k:∀ b u,h.get? b=some u→h'.get? b=some u):HOk P w H h':=fun a o e=>
 (x a o e).stay (fun b u _ q=>k b u q) (fun _ q=>q) fun _ _ q=>q
theorem HOk.laid (x:HOk P w H h)(k:∀ b u,h.get? b=some u→h'.get? b=some u)(hp:h.objs.size≤a)(new:ObjOk P w (upd H a o) h' a o):HOk P w (upd H a o) h':=fun b u e=>by
 have hn:=x.fresh hp
 by_cases hb:b=a
 ·subst hb;rw[a9]at e;cases e;exact new
 ·rw[aa hb]at e
  exact (x b u e).stay (fun c v _ q=>k c v q) (fun c q=>by rw[aa (ag q hn)];exact q) fun c xs q=>by rw[aa (ag q hn)];exact q
end
def Rd (H:Hp)(a:Addr)(u:HO):Prop:=H a=some u∨∃ o,H a=some (.frz o u)
theorem Rd.ok {P:Program}{w:World}{H:Hp}{h:Heap}{a:Addr}{u:HO} (r:Rd H a u) (x:HOk P w H h):ObjOk P w H h a u:=by
 rcases r with r|⟨o,r⟩
 ·exact x a u r
 ·obtain⟨_,q⟩:=x a _ r
  exact q
def Mut:Option HO→Prop
 | some (.lst _)=>True
 | some (.dK _)=>True
 | some (.dT _)=>True
 | some (.set _ _)=>True
 | some (.ins _ _ _)=>True
 | some (.ext _)=>True
 | _=>False
section
variable {P : Program}{w : World}{H : Hp}{h h' : Heap}{x e : Addr}{o' : HO}
theorem HOk.write (ok:HOk P w H h)(mu:Mut (H x))(he:e=x∨H e=some (.own x))(k:∀ b u,b≠e→h.get? b=some u→h'.get? b=some u)(heo:∃ u,h'.get? e=some u)
  (new:ObjOk P w (upd H x o') h' x o'):HOk P w (upd H x o') h':=fun b u q=>by
 have nown:∀ c y,H c=some (.own y)→c≠x:=fun c y r z=>by subst z;rw[r]at mu;exact mu
 have ntup:∀ c xs,H c=some (.tup xs)→c≠x:=fun c xs r z=>by subst z;rw[r]at mu;exact mu
 by_cases hb:b=x
 ·subst hb;rw[a9]at q;cases q;exact new
 ·rw[aa hb]at q
  by_cases hbe:b=e
  ·have q':H b=some (.own x):=by
    rcases he with z|z
    ·exact absurd (hbe.trans z) hb
    ·rw[hbe];exact z
   rw[q]at q';cases q'
   obtain⟨v,hv⟩:=heo
   exact⟨v,by rw[hbe];exact hv⟩
  ·refine (ok b u q).stay (fun c v hc r=>k c v ?_ r) (fun c r=>by rw[aa (nown c b r)];exact r) fun c xs r=>by rw[aa (ntup c xs r)];exact r
   rcases hc with rfl|hc
   ·exact hbe
   ·rintro rfl
    rcases he with z|z
    ·exact nown c b hc z
    ·rw[hc]at z;cases z;exact hb rfl
end
structure Un (fs ex : List Addr) (H H' : Hp) (h h' : Heap) : Prop where
  keep : ∀ b o, h.get? b = some o → H b = none → b ∉ fs → b ∉ ex → h'.get? b = some o
  slot : ∀ b o, h.get? b = some o → H b = none → b ∈ fs → b ∉ ex → ∃ sl, h'.get? b = some { o with slots := sl }
  free : ∀ b o, h.get? b = some o → H b = none → b ∉ ex → H' b = none
  there : ∀ b o, h.get? b = some o → b ∉ ex → ∃ o', h'.get? b = some o'
  tups : ∀ b xs, H b = some (.tup xs) → H' b = some (.tup xs)
  frzs : ∀ b o u, H b = some (.frz o u) → H' b = some (.frz o u)
  tbls : ∀ b ps, H b = some (.tbl ps) → ∃ more, H' b = some (.tbl (ps ++ more))
section
variable {fs fs' ex ex' : List Addr}{H H1 H2 : Hp}{h h1 h2 h' : Heap}{a x e : Addr}{o : HO}
theorem Un.any (u:Un fs ex H H1 h h1){b:Addr}{ob:Obj} (q:h.get? b=some ob) (n:H b=none) (hx:b∉ex):∃ sl,h1.get? b=some { ob with slots:=sl }:=by
 by_cases hb:b∈fs
 ·exact u.slot b ob q n hb hx
 ·exact⟨ob.slots,u.keep b ob q n hb hx⟩
theorem Un.kept (k:∀ b u,h.get? b=some u→h'.get? b=some u):Un fs ex H H h h':=
 ⟨fun b ob q _ _ _=>k b ob q,fun b ob q _ _ _=>⟨ob.slots,k b ob q⟩,fun _ _ _ n _=>n,fun b ob q _=>⟨ob,k b ob q⟩,fun _ _ q=>q,fun _ _ _ q=>q,fun _ ps q=>⟨#[],by rw[q];simp⟩⟩
theorem Un.refl:Un fs ex H H h h:=Un.kept fun _ _ q=>q
theorem Un.laid (k:∀ b u,h.get? b=some u→h'.get? b=some u)(hp:h.objs.size≤a)(hn:H a=none):Un fs ex H (upd H a o) h h' where
 keep:=fun b u q _ _ _=>k b u q
 slot:=fun b u q _ _ _=>⟨u.slots,k b u q⟩
 free:=fun b u q n _=>by rw[aa (Nat.ne_of_lt (Nat.lt_of_lt_of_le (Heap.lt_size q) hp))];exact n
 there:=fun b u q _=>⟨u,k b u q⟩
 tups:=fun b xs q=>by rw[aa (ag q hn)];exact q
 frzs:=fun b u xs q=>by rw[aa (ag q hn)];exact q
 tbls:=fun b ps q=>⟨#[],by rw[aa (ag q hn),q];simp⟩
theorem Un.write (mu:Mut (H x))(he:e=x∨H e=some (.own x))(k:∀ b u,b≠e→h.get? b=some u→h'.get? b=some u)(heo:∃ u,h'.get? e=some u):Un fs ex H (upd H x o) h h':=by
 have hx:∀ b,H b=none→b≠x:=fun b n z=>by subst z;rw[n]at mu;exact mu
 have hb:∀ b,H b=none→b≠e:=fun b n z=>by
  subst z
  rcases he with r|r
  ·exact hx b n r
  ·rw[n]at r;cases r
 have hm:∀ b u,H b=some u→¬ Mut (some u)→b≠x:=fun b u q nm z=>by subst z;rw[q]at mu;exact nm mu
 refine⟨fun b u q n _ _=>k b u (hb b n) q,fun b u q n _ _=>⟨u.slots,k b u (hb b n) q⟩,fun b u q n _=>by rw[aa (hx b n)];exact n,fun b u q _=>?_,
  fun b xs q=>by rw[aa (hm b _ q fun z=>z)];exact q,fun b u xs q=>by rw[aa (hm b _ q fun z=>z)];exact q,fun b ps q=>⟨#[],by rw[aa (hm b _ q fun z=>z),q];simp⟩⟩
 by_cases hbe:b=e
 ·subst hbe;exact heo
 ·exact⟨u,k b u hbe q⟩
end
def trk (h:Heap)(H:Hp):List Addr:=(List.range h.objs.size).filter fun a=>(H a).isSome
def mI (h:Heap)(H:Hp):Heap:=PySem.W.hideAll h (trk h H)
theorem sA (h:Heap)(H:Hp):(mI h H).objs.size=h.objs.size:=PySem.W.hideAll_size _ _
theorem u9 {h:Heap}{H:Hp}{b:Addr}{o:Obj} (e:h.get? b=some o) (n:H b=none):(mI h H).get? b=some o:=
 PySem.W.hideAll_get _ e fun hm=>by
  have q:(H b).isSome=true:=(List.mem_filter.mp hm).2
  rw[n]at q;simp at q
theorem ve {h:Heap}{H:Hp}{b:Addr}{o:Obj} (e:(mI h H).get? b=some o):h.get? b=some o∧H b=none:=by
 have e':h.get? b=some o:=PySem.W.of_hideAll (trk h H) e
 refine⟨e',?_⟩
 cases q:H b with
 | none=>rfl
 | some x=>
  have hm:b∈trk h H:=List.mem_filter.mpr ⟨List.mem_range.mpr (Heap.lt_size e'),by simp[q]⟩
  have z:(mI h H).get? b=none:=PySem.W.hideAll_none (trk h H) hm
  rw[z]at e;cases e
structure Mod (K : PySem.W.Frag) (mg : Str → Option Value) (base : Heap) : Prop where
  kin : K.In base
  glob : base.Ns mainGlobals mg
  blt : ∃ mb, base.Ns builtinsNs mb ∧ ∀ x : Str, x ≠ "__name__" → mb x = bootBuiltins x
  nolimit : base.NoLimit
structure Cx where
  prog : Program
  w : World
  K : PySem.W.Frag
  mg : Str → Option Value
  base : Heap
  A : Around
  N : List Str
  s₀ : Shared
  H₀ : Hp
  env : Env
  outer : List Env
  stack : List Env
  ex : List Addr
  fn : Str → Bool
  calm : Bool
  pn : List (Addr × Obj)
  xe : Value → Shared → Prop
def frs (l:List Env):List Addr:=l.filterMap (·.frame)
abbrev Cx.fs (X:Cx):List Addr:=frs X.outer
def Vis (sc:Scope)(x:Str):Prop:=sc.names.lookup x=some .local∨sc.names.lookup x=some .cell∨sc.names.lookup x=some .free
def Loc (sc:Scope)(x:Str):Prop:=sc.names.lookup x=some .local∨sc.names.lookup x=some .cell
def Look (env:Env)(h:Heap)(m:Str→Option Value)(x:Str)(u:Value):Prop:=
 (env.kindOf x=some .local∧m x=some u)∨((env.kindOf x=some .cell∨env.kindOf x=some .free)∧∃ c,env.cells.lookup x=some c∧h.IsCell c (some u))
structure Cx.Ok (X : Cx) : Prop where
  mod : Mod X.K X.mg X.base
  kind : X.env.scope.kind = .function
  glob : X.env.globals = mainGlobals
  blt : X.env.builtins = builtinsNs
  above : X.s₀.heap.objs.size ≤ X.env.locals
  inj : ∀ x y c, X.env.cells.lookup x = some c → X.env.cells.lookup y = some c → x = y
  has : ∀ x, (X.env.kindOf x = some .cell ∨ X.env.kindOf x = some .free) → ∃ c, X.env.cells.lookup x = some c
  cab : ∀ x c, X.fn x = true → X.env.cells.lookup x = some c → X.s₀.heap.objs.size ≤ c
  hd : X.calm = true → X.A.handled = none
  frames : X.A.frames = some X.stack
  stk : X.stack = X.outer ∨ (X.stack = X.env :: X.outer ∧ X.env.frame = some X.env.locals)
  exf : ∀ b ∈ X.ex, b ≠ X.env.locals ∧ ∀ x c, X.env.cells.lookup x = some c → c ≠ b
  bs : ∀ b o, X.base.get? b = some o → X.s₀.heap.get? b = some o ∧ X.H₀ b = none
  bsz : X.base.objs.size ≤ X.s₀.heap.objs.size
  noex : ∀ b o, X.base.get? b = some o → b ∉ X.ex
  exfs : ∀ b ∈ X.ex, b ∉ X.fs
  funs : X.s₀.heap.FunFrames X.base X.outer
  frf : ∀ b ∈ X.fs, X.H₀ b = none
structure Inv (X : Cx) (pins : List (Addr × Obj)) (σ : List (Option V)) (H : Hp) (s : Shared) : Prop where
  ok : X.Ok
  os : s.os = X.s₀.os
  bare : AllBare s.gens
  base : Un X.fs X.ex X.H₀ H X.s₀.heap s.heap
  loc : ∃ m, s.heap.Ns X.env.locals m ∧ ∀ (i : Nat) (x : Str) (v : V), X.N[i]? = some x → σ[i]? = some (some v) → Vis X.env.scope x → ∃ u, RelV v u ∧ Look X.env s.heap m x u
  cell : ∀ x c, X.env.cells.lookup x = some c → ∃ v, s.heap.IsCell c v
  free : H X.env.locals = none
  freeC : ∀ x c, X.env.cells.lookup x = some c → H c = none
  pin : ∀ p ∈ X.pn ++ pins, s.heap.get? p.1 = some p.2 ∧ H p.1 = none ∧ p.1 ≠ X.env.locals ∧ p.1 ∉ X.fs ∧ ∀ v, p.2.data ≠ .cell v
  hok : HOk X.prog X.w H s.heap
  len : σ.length = X.N.length
section
variable {X : Cx}{pins : List (Addr×Obj)}{σ : List (Option V)}{H H' : Hp}{s : Shared}{h' : Heap}
theorem Cx.Ok.nofr (ok:X.Ok){b:Addr}{o:Obj} (e:X.base.get? b=some o):b∉X.fs:=fun hb=>by
 have:=(ok.funs.mem hb).1
 rw[e]at this;cases this
theorem Inv.bs (I:Inv X pins σ H s):∀ b o,X.base.get? b=some o→s.heap.get? b=some o∧H b=none:=fun b o e=>
 ⟨I.base.keep b o (I.ok.bs b o e).1 (I.ok.bs b o e).2 (I.ok.nofr e) (I.ok.noex b o e),I.base.free b o (I.ok.bs b o e).1 (I.ok.bs b o e).2 (I.ok.noex b o e)⟩
theorem Inv.bk (I:Inv X pins σ H s):∀ b o,X.base.get? b=some o→s.heap.get? b=some o:=fun b o e=>(I.bs b o e).1
theorem Inv.mod (I:Inv X pins σ H s):Mod X.K X.mg X.base:=I.ok.mod
theorem Inv.kIn (I:Inv X pins σ H s):X.K.In s.heap:=I.ok.mod.kin.keeps I.bk
theorem Inv.lt (I:Inv X pins σ H s):X.env.locals<s.heap.objs.size:=let ⟨_,hn,_⟩:=I.loc;hn.lt
theorem Inv.sz (I:Inv X pins σ H s):X.s₀.heap.objs.size≤s.heap.objs.size:=Nat.le_trans I.ok.above (Nat.le_of_lt I.lt)
theorem Inv.nofs (I:Inv X pins σ H s){a:Addr}(h:s.heap.objs.size≤a):a∉X.fs:=fun hb=>by
 obtain⟨_,o,ho,_⟩:=I.ok.funs.mem hb
 exact absurd (Nat.lt_of_lt_of_le (Heap.lt_size ho) (Nat.le_trans I.sz h)) (Nat.lt_irrefl _)
theorem Inv.cne (I:Inv X pins σ H s):∀ x c,X.env.cells.lookup x=some c→c≠X.env.locals:=fun x c e z=>by
 obtain⟨v,o,ho,hd⟩:=I.cell x c e
 obtain⟨m,⟨o',es,ep,ho',hd',_⟩,_⟩:=I.loc
 rw[z,ho']at ho;cases ho;rw[hd']at hd;cases hd
theorem Inv.funs (I:Inv X pins σ H s):s.heap.FunFrames X.base X.outer:=by
 have all:∀ (l:List Env),(∀ b∈frs l,b∈X.fs)→X.s₀.heap.FunFrames X.base l→s.heap.FunFrames X.base l:=by
  intro l
  induction l with
  | nil=>intro _ _;trivial
  | cons env r ih=>
   intro hs hl
   obtain⟨hk,⟨L,o,hf,hn,ho,hd⟩,hr⟩:=hl
   have hL:L∈X.fs:=hs L (by unfold frs;rw[List.filterMap_cons,hf];exact List.mem_cons_self)
   obtain⟨sl,e⟩:=I.base.slot L o ho (I.ok.frf L hL) hL fun z=>I.ok.exfs L z hL
   exact⟨hk,⟨L,_,hf,hn,e,hd⟩,ih (fun b hb=>hs b (by unfold frs;rw[List.filterMap_cons,hf];exact List.mem_cons_of_mem _ hb)) hr⟩
 exact all X.outer (fun _ hb=>hb) I.ok.funs
theorem Inv.stack (I:Inv X pins σ H s):s.heap.FunFrames X.base X.stack:=by
 rcases I.ok.stk with e|⟨e,hf⟩
 ·rw[e];exact I.funs
 ·rw[e]
  obtain⟨m,hn,_⟩:=I.loc
  refine .cons (by rw[I.ok.kind];decide) hf hn ?_ I.funs
  exact Heap.get?_none_of_le (Nat.le_trans I.ok.bsz I.ok.above)
theorem Inv.stkSub (I:Inv X pins σ H s):∀ b∈frs X.stack,b∈X.env.locals::X.fs:=fun b hb=>by
 rcases I.ok.stk with e|⟨e,hf⟩
 ·rw[e]at hb;exact List.mem_cons_of_mem _ hb
 ·rw[e]at hb
  unfold frs at hb
  rw[List.filterMap_cons,hf]at hb
  exact hb
theorem Inv.stkFree (I:Inv X pins σ H s):∀ b∈frs X.stack,H b=none:=fun b hb=>by
 rcases List.mem_cons.mp (I.stkSub b hb) with e|hb
 ·rw[e];exact I.free
 ·obtain⟨_,o,ho,_⟩:=I.ok.funs.mem hb
  exact I.base.free b o ho (I.ok.frf b hb) fun z=>I.ok.exfs b z hb
theorem Inv.step {g':Array GenState}{t':Nat}{d':Drawn}{ch:List Addr} (I:Inv X pins σ H s)
  (hch:∀ b∈ch,(b∈X.ex∨X.s₀.heap.objs.size≤b)∧b≠X.env.locals∧(∀ x c,X.env.cells.lookup x=some c→c≠b)∧∀ p∈X.pn++pins,p.1≠b)
  (keep:∀ b o,b≠X.env.locals→b∉X.fs→b∉ch→s.heap.get? b=some o→H b=none→h'.get? b=some o)
  (slot:∀ b o,b≠X.env.locals→b∈X.fs→b∉ch→s.heap.get? b=some o→H b=none→∃ sl,h'.get? b=some { o with slots:=sl }) (free:∀ b o,b∉ch→s.heap.get? b=some o→H b=none→H' b=none)
  (there:∀ b o,b∉ch→s.heap.get? b=some o→∃ o',h'.get? b=some o')
  (tups:∀ b xs,H b=some (.tup xs)→H' b=some (.tup xs)) (frzs:∀ b o u,H b=some (.frz o u)→H' b=some (.frz o u)) (tbls:∀ b ps,H b=some (.tbl ps)→∃ more,H' b=some (.tbl (ps++more)))
  (ns:∀ m,s.heap.Ns X.env.locals m→h'.Ns X.env.locals m) (hok:HOk X.prog X.w H' h') (hg:AllBare g'):
  Inv X pins σ H' { s with heap:=h',gens:=g',drawn:=d',toks:=t' }:=by
 have neL:∀ b o,X.s₀.heap.get? b=some o→b≠X.env.locals:=fun b o e=>Nat.ne_of_lt (Nat.lt_of_lt_of_le (Heap.lt_size e) I.ok.above)
 have neC:∀ b o,X.s₀.heap.get? b=some o→b∉X.ex→b∉ch:=fun b o e hx hb=>by
  rcases (hch b hb).1 with z|z
  ·exact hx z
  ·exact absurd (Nat.lt_of_lt_of_le (Heap.lt_size e) z) (Nat.lt_irrefl _)
 have cellK:∀ x c,X.env.cells.lookup x=some c→∀ v,s.heap.IsCell c v→h'.IsCell c v:=fun x c e v ⟨o,ho,hd⟩=>by
  have nch:c∉ch:=fun z=>(hch c z).2.2.1 x c e rfl
  by_cases hc:c∈X.fs
  ·obtain⟨sl,q⟩:=slot c o (I.cne x c e) hc nch ho (I.freeC x c e)
   exact⟨_,q,hd⟩
  ·exact⟨o,keep c o (I.cne x c e) hc nch ho (I.freeC x c e),hd⟩
 refine⟨I.ok,I.os,hg,⟨fun b o e n hb hx=>?_,fun b o e n hb hx=>?_,fun b o e n hx=>?_,fun b o e hx=>?_,fun b xs e=>tups b xs (I.base.tups b xs e),fun b o xs e=>frzs b o xs (I.base.frzs b o xs e),fun b ps e=>?_⟩,?_,fun x c e=>?_,?_,fun x c e=>?_,fun p hp=>?_,hok,I.len⟩
 ·exact keep b o (neL b o e) hb (neC b o e hx) (I.base.keep b o e n hb hx) (I.base.free b o e n hx)
 ·obtain⟨sl,e1⟩:=I.base.slot b o e n hb hx
  obtain⟨sl',e2⟩:=slot b _ (neL b o e) hb (neC b o e hx) e1 (I.base.free b o e n hx)
  exact⟨sl',e2⟩
 ·obtain⟨o',e1⟩:=I.base.there b o e hx
  exact free b o' (neC b o e hx) e1 (I.base.free b o e n hx)
 ·obtain⟨o',e1⟩:=I.base.there b o e hx
  exact there b o' (neC b o e hx) e1
 ·obtain⟨m1,e1⟩:=I.base.tbls b ps e
  obtain⟨m2,e2⟩:=tbls b _ e1
  exact⟨m1++m2,by rw[e2,Array.append_assoc]⟩
 ·obtain⟨m,hn,hl⟩:=I.loc
  refine⟨m,ns m hn,fun i x v e1 e2 e3=>?_⟩
  obtain⟨u,r,l⟩:=hl i x v e1 e2 e3
  refine⟨u,r,?_⟩
  rcases l with l|⟨k,c,e,z⟩
  ·exact .inl l
  ·exact .inr ⟨k,c,e,cellK x c e _ z⟩
 ·obtain⟨v,z⟩:=I.cell x c e
  exact⟨v,cellK x c e v z⟩
 ·obtain⟨m,⟨o,_,_,ho,_⟩,_⟩:=I.loc
  exact free _ o (fun z=>(hch _ z).2.1 rfl) ho I.free
 ·obtain⟨v,o,ho,hd⟩:=I.cell x c e
  exact free c o (fun z=>(hch c z).2.2.1 x c e rfl) ho (I.freeC x c e)
 ·obtain⟨e,n,ne,nf,d⟩:=I.pin p hp
  have nch:p.1∉ch:=fun z=>(hch p.1 z).2.2.2 p hp rfl
  exact⟨keep p.1 p.2 ne nf nch e n,free p.1 p.2 nch e n,ne,nf,d⟩
theorem Inv.un {t':Nat}(I:Inv X pins σ H s)(u:Un X.fs [] H H' s.heap h')(hok:HOk X.prog X.w H' h'):Inv X pins σ H' { s with heap:=h',toks:=t' }:=by
 obtain⟨m,⟨o,es,ep,ho,r⟩,_⟩:=id I.loc
 obtain⟨sl,hL⟩:=u.any ho I.free (by simp)
 exact I.step (g':=s.gens) (d':=s.drawn) (ch:=[]) (fun _ z=>nomatch z) (fun b o _ hb _ e n=>u.keep b o e n hb (by simp)) (fun b o _ hb _ e n=>u.slot b o e n hb (by simp)) (fun b o _ e n=>u.free b o e n (by simp)) (fun b o _ e=>u.there b o e (by simp)) u.tups u.frzs u.tbls (fun m' hm=>by
  obtain⟨o',es',ep',ho',r'⟩:=hm
  rw[ho]at ho';cases ho'
  exact⟨_,es',ep',hL,r'⟩) hok I.bare
theorem Inv.call {g':Array GenState}{t':Nat}{d':Drawn}{ch:List Addr} (I:Inv X pins σ H s) (u:Un (frs X.stack) ch H H' s.heap h') (hok:HOk X.prog X.w H' h') (hg:AllBare g')
  (hch:∀ b∈ch,(b∈X.ex∨X.s₀.heap.objs.size≤b)∧b≠X.env.locals∧(∀ x c,X.env.cells.lookup x=some c→c≠b)∧∀ p∈X.pn++pins,p.1≠b):
  Inv X pins σ H' { s with heap:=h',gens:=g',drawn:=d',toks:=t' }:=by
 obtain⟨m,⟨o,es,ep,ho,r⟩,_⟩:=id I.loc
 obtain⟨sl,hL⟩:=u.any ho I.free fun z=>(hch _ z).2.1 rfl
 exact I.step (ch:=ch) hch (fun b o hL hb hc e n=>u.keep b o e n (fun z=>(List.mem_cons.mp (I.stkSub b z)).elim hL hb) hc) (fun b o _ _ hc e n=>u.any e n hc) (fun b o hc e n=>u.free b o e n hc) (fun b o hc e=>u.there b o e hc) u.tups u.frzs u.tbls (fun m' hm=>by
  obtain⟨o',es',ep',ho',r'⟩:=hm
  rw[ho]at ho';cases ho'
  exact⟨_,es',ep',hL,r'⟩) hok hg
theorem Inv.turned {t':Nat}{it:Addr} (I:Inv X pins σ H s) (k:∀ b o,b≠it→s.heap.get? b=some o→h'.get? b=some o) (hn:H it=none) (hL:it≠X.env.locals)
  (h1:it∈X.ex∨X.s₀.heap.objs.size≤it) (h2:∀ x c,X.env.cells.lookup x=some c→c≠it) (h3:∀ p∈X.pn++pins,p.1≠it):Inv X pins σ H { s with heap:=h',toks:=t' }:=by
 have nit:∀ b u,H b=some u→b≠it:=fun b u e z=>by rw[z,hn]at e;cases e
 refine I.step (g':=s.gens) (d':=s.drawn) (ch:=[it]) (fun b hb=>?_) (fun b o _ _ hc e _=>k b o (fun z=>hc (by simp[z])) e) (fun b o _ _ hc e _=>⟨o.slots,k b o (fun z=>hc (by simp[z])) e⟩) (fun _ _ _ _ n=>n)
  (fun b o hc e=>⟨o,k b o (fun z=>hc (by simp[z])) e⟩) (fun _ _ e=>e) (fun _ _ _ e=>e) (fun b ps e=>⟨#[],by rw[e];simp⟩) (fun m hm=>?_) (fun b u e=>?_) I.bare
 ·have e:b=it:=by simpa using hb
  subst e
  exact⟨h1,hL,h2,h3⟩
 ·obtain⟨o,es,ep,ho,r⟩:=hm
  exact⟨o,es,ep,k _ o (Ne.symm hL) ho,r⟩
 ·refine (I.hok b u e).stay (fun c v hc q=>k c v ?_ q) (fun _ q=>q) fun _ _ q=>q
  rcases hc with z|z
  ·rw[z];exact nit b u e
  ·exact nit c _ z
theorem Inv.tok (I:Inv X pins σ H s)(t:Nat):Inv X pins σ H { s with toks:=t }:=I.un (h':=s.heap) (t':=t) Un.refl I.hok
theorem Inv.kept {t':Nat}(I:Inv X pins σ H s)(k:∀ b u,s.heap.get? b=some u→h'.get? b=some u):Inv X pins σ H { s with heap:=h',toks:=t' }:=I.un (Un.kept k) (I.hok.kept k)
theorem Inv.laid {a:Addr}{o:HO}{t':Nat} (I:Inv X pins σ H s) (k:∀ b u,s.heap.get? b=some u→h'.get? b=some u) (hp:s.heap.objs.size≤a) (new:ObjOk X.prog X.w (upd H a o) h' a o):
  Inv X pins σ (upd H a o) { s with heap:=h',toks:=t' }:=I.un (Un.laid k hp (I.hok.fresh hp)) (I.hok.laid k hp new)
theorem Inv.write {x e:Addr}{o:HO}{t':Nat} (I:Inv X pins σ H s) (mu:Mut (H x)) (he:e=x∨H e=some (.own x)) (k:∀ b u,b≠e→s.heap.get? b=some u→h'.get? b=some u) (heo:∃ u,h'.get? e=some u)
  (new:ObjOk X.prog X.w (upd H x o) h' x o):Inv X pins σ (upd H x o) { s with heap:=h',toks:=t' }:=I.un (Un.write mu he k heo) (I.hok.write mu he k heo new)
theorem Inv.pins_of {pins':List (Addr×Obj)}(I:Inv X pins σ H s)(h:∀ p∈pins',s.heap.get? p.1=some p.2∧H p.1=none∧p.1≠X.env.locals∧p.1∉X.fs∧∀ v,p.2.data≠.cell v):Inv X pins' σ H s:=
 ⟨I.ok,I.os,I.bare,I.base,I.loc,I.cell,I.free,I.freeC,fun p hp=>(List.mem_append.mp hp).elim (fun z=>I.pin p (List.mem_append_left _ z)) (h p),I.hok,I.len⟩
theorem jS {N:List Str}(hN:N.Nodup){i j:Nat}{x:Str} (a:N[i]?=some x) (b:N[j]?=some x):i=j:=by
 obtain⟨h1,e1⟩:=List.getElem?_eq_some_iff.mp a
 obtain⟨h2,e2⟩:=List.getElem?_eq_some_iff.mp b
 exact (List.getElem_inj hN).mp (e1.trans e2.symm)
theorem rM {M:Model}{A:Around}{E:Value→Shared→Prop}{i:Nat}{x:Str}{v:V}{u:Value}{Q:Unit→Shared→Prop} (I:Inv X pins σ H s) (hN:X.N.Nodup) (hi:X.N[i]?=some x) (hx:Loc X.env.scope x) (r:RelV v u)
  (h:∀ s',Inv X pins (σ.set i (some v)) H s'→(∃ a,Heap.SameBut a s.heap s'.heap∧(a=X.env.locals∨X.env.cells.lookup x=some a))→Q () s') (hf:X.fn x=true∨X.env.scope.names.lookup x=some .local:=by first|exact .inl rfl|exact .inr rfl|assumption):wpAny M A (storeName X.env x u) Q E s:=by
 obtain⟨m,hn,hl⟩:=id I.loc
 have hcls:(X.env.scope.kind==.class || (X.env.scope.kind==.module&&X.env.locals != X.env.globals))=false:=by rw[I.ok.kind];rfl
 have hiσ:i<σ.length:=by rw[I.len];exact (List.getElem?_eq_some_iff.mp hi).1
 have cne:=I.cne
 have tracked:∀ {a:Addr}{h':Heap},(∃ o,s.heap.get? a=some o∧H a=none)→Heap.SameBut a s.heap h'→HOk X.prog X.w H h':=fun {a h'} ha hs b ob e=>by
  obtain⟨_,_,hfree⟩:=ha
  refine (I.hok b ob e).stay (fun c w' hc q=>(hs.2 c ?_).trans q) (fun _ q=>q) fun _ _ q=>q
  rintro rfl
  rcases hc with rfl|hc
  ·rw[hfree]at e;cases e
  ·rw[hfree]at hc;cases hc
 rcases hx with hk|hk
 ·refine wpAny_storeName_local hk hn (fun h' hn' hs=>?_) hcls
  obtain⟨oL,_,_,hoL,_⟩:=id hn
  refine h _ ⟨I.ok,I.os,I.bare,⟨fun b o e n hb hx=>?_,fun b o e n hb hx=>?_,I.base.free,fun b o e hx=>?_,I.base.tups,I.base.frzs,I.base.tbls⟩,⟨_,hn',fun j y v' e1 e2 e3=>?_⟩,fun y c e=>?_,I.free,I.freeC,fun p hp=>?_,tracked ⟨oL,hoL,I.free⟩ hs,by simpa using I.len⟩ ⟨_,hs,.inl rfl⟩
  ·exact (hs.2 b (Nat.ne_of_lt (Nat.lt_of_lt_of_le (Heap.lt_size e) I.ok.above))).trans (I.base.keep b o e n hb hx)
  ·obtain⟨sl,e1⟩:=I.base.slot b o e n hb hx
   exact⟨sl,(hs.2 b (Nat.ne_of_lt (Nat.lt_of_lt_of_le (Heap.lt_size e) I.ok.above))).trans e1⟩
  ·obtain⟨o',e1⟩:=I.base.there b o e hx
   exact⟨o',(hs.2 b (Nat.ne_of_lt (Nat.lt_of_lt_of_le (Heap.lt_size e) I.ok.above))).trans e1⟩
  ·by_cases hj:j=i
   ·subst hj
    rw[hi]at e1;cases e1
    rw[List.getElem?_set_self hiσ]at e2
    cases e2
    exact⟨u,r,.inl ⟨hk,by simp⟩⟩
   ·rw[List.getElem?_set_ne (Ne.symm hj)]at e2
    obtain⟨u',r',q⟩:=hl j y v' e1 e2 e3
    refine⟨u',r',?_⟩
    rcases q with⟨k,e⟩|⟨k,c,e,z⟩
    ·refine .inl ⟨k,?_⟩
     have:y≠x:=fun e=>hj (jS hN e1 (e▸hi))
     simp[this,e]
    ·exact .inr ⟨k,c,e,z.sameBut hs (cne y c e)⟩
  ·obtain⟨w',z⟩:=I.cell y c e
   exact⟨w',z.sameBut hs (cne y c e)⟩
  ·obtain⟨e,n,ne,nf,d⟩:=I.pin p hp
   exact⟨(hs.2 p.1 ne).trans e,n,ne,nf,d⟩
 ·have hfn:X.fn x=true:=by
   rcases hf with z|z
   ·exact z
   ·rw[z]at hk;cases hk
  obtain⟨c,hc⟩:=I.ok.has x (.inl hk)
  obtain⟨w',z⟩:=I.cell x c hc
  refine wpAny_storeName_cell I.ok.kind hk hc z (fun h' hc' hs=>?_)
  obtain⟨oc,hoc,hocd⟩:=id z
  refine h { s with heap:=h' } ⟨I.ok,I.os,I.bare,⟨fun b o e n hb hx=>?_,fun b o e n hb hx=>?_,I.base.free,fun b o e hx=>?_,I.base.tups,I.base.frzs,I.base.tbls⟩,⟨m,hn.sameBut hs (Ne.symm (cne x c hc)),fun j y v' e1 e2 e3=>?_⟩,fun y c' e=>?_,I.free,I.freeC,fun p hp=>?_,tracked ⟨oc,hoc,I.freeC x c hc⟩ hs,by simpa using I.len⟩ ⟨c,hs,.inr hc⟩
  ·exact (hs.2 b (Nat.ne_of_lt (Nat.lt_of_lt_of_le (Heap.lt_size e) (I.ok.cab x c hfn hc)))).trans (I.base.keep b o e n hb hx)
  ·obtain⟨sl,e1⟩:=I.base.slot b o e n hb hx
   exact⟨sl,(hs.2 b (Nat.ne_of_lt (Nat.lt_of_lt_of_le (Heap.lt_size e) (I.ok.cab x c hfn hc)))).trans e1⟩
  ·obtain⟨o',e1⟩:=I.base.there b o e hx
   exact⟨o',(hs.2 b (Nat.ne_of_lt (Nat.lt_of_lt_of_le (Heap.lt_size e) (I.ok.cab x c hfn hc)))).trans e1⟩
  ·by_cases hj:j=i
   ·subst hj
    rw[hi]at e1;cases e1
    rw[List.getElem?_set_self hiσ]at e2
    cases e2
    exact⟨u,r,.inr ⟨.inl hk,c,hc,hc'⟩⟩
   ·rw[List.getElem?_set_ne (Ne.symm hj)]at e2
    obtain⟨u',r',q⟩:=hl j y v' e1 e2 e3
    refine⟨u',r',?_⟩
    rcases q with q|⟨k,c',e,z'⟩
    ·exact .inl q
    ·refine .inr ⟨k,c',e,z'.sameBut hs ?_⟩
     rintro rfl
     exact hj (jS hN e1 (I.ok.inj _ _ _ e hc▸hi))
  ·by_cases hcc:c'=c
   ·subst hcc;exact⟨_,hc'⟩
   ·obtain⟨w2,z2⟩:=I.cell y c' e
    exact⟨w2,z2.sameBut hs hcc⟩
  ·obtain⟨e,n,ne,nf,d⟩:=I.pin p hp
   refine⟨(hs.2 p.1 ?_).trans e,n,ne,nf,d⟩
   intro q
   rw[q,hoc]at e
   have q':oc=p.2:=Option.some.inj e
   exact d w' (by rw[← q'];exact hocd)
theorem gQ {M:Model}{A:Around}{E:Value→Shared→Prop}{i:Nat}{x:Str}{v:V}{u:Value}{Q:Unit→Shared→Prop} (I:Inv X pins σ H s) (hN:X.N.Nodup) (hi:X.N[i]?=some x) (hx:Loc X.env.scope x) (r:RelV v u)
  (h:∀ s',Inv X pins (σ.set i (some v)) H s'→Q () s') (hf:X.fn x=true∨X.env.scope.names.lookup x=some .local:=by first|exact .inl rfl|exact .inr rfl|assumption):wpAny M A (storeName X.env x u) Q E s:=
 rM I hN hi hx r (fun s' I' _=>h s' I') hf
theorem Inv.call' {s':Shared}{ch:List Addr} (I:Inv X pins σ H s) (ho:s'.os=s.os) (u:Un (frs X.stack) ch H H' s.heap s'.heap) (hok:HOk X.prog X.w H' s'.heap) (hg:AllBare s'.gens)
  (hch:∀ b∈ch,(b∈X.ex∨X.s₀.heap.objs.size≤b)∧b≠X.env.locals∧(∀ x c,X.env.cells.lookup x=some c→c≠b)∧∀ p∈X.pn++pins,p.1≠b):Inv X pins σ H' s':=by
 obtain⟨h',g',d',t',o'⟩:=s'
 have e:o'=s.os:=ho
 subst e
 exact I.call (g':=g') (t':=t') (d':=d') u hok hg hch
end
abbrev XK:=Value→Option Addr→Hp→Prop
abbrev St:=List (Option V)
abbrev VK:=V→Hp→Prop
abbrev TE:=St→Hp→VK→Prop
abbrev TT:=St→Hp→(Bool→Hp→Prop)→Prop
abbrev TA:=St→Hp→(List V→Hp→Prop)→Prop
structure fX where
  nx : St → Hp → Prop
  rt : VK
  bk : St → Hp → Prop := fun _ _ => False
  ct : St → Hp → Prop := fun _ _ => False
abbrev TS:=fX→St→Hp→Prop
def EP (X:Cx)(pins:List (Addr×Obj))(σ:St)(Q:VK)(u:Value)(s':Shared):Prop:=∃ v H',Inv X pins σ H' s'∧RelV v u∧Q v H'
def TP (X:Cx)(pins:List (Addr×Obj))(σ:St)(Q:Bool→Hp→Prop)(b:Bool)(s':Shared):Prop:=∃ H',Inv X pins σ H' s'∧Q b H'
def AP (X:Cx)(pins:List (Addr×Obj))(σ:St)(Q:List V→Hp→Prop)(us:List Value)(s':Shared):Prop:=∃ vs H',Inv X pins σ H' s'∧Vals vs us∧Q vs H'
def SP (X:Cx)(pins:List (Addr×Obj))(D:fX)(f:Flow)(s':Shared):Prop:=
 match f with
 | .next=>∃ σ' H',Inv X pins σ' H' s'∧D.nx σ' H'
 | .brk=>∃ σ' H',Inv X pins σ' H' s'∧D.bk σ' H'
 | .cont=>∃ σ' H',Inv X pins σ' H' s'∧D.ct σ' H'
 | .ret u=>∃ v σ' H',Inv X pins σ' H' s'∧RelV v u∧D.rt v H'
def PE (X:Cx)(e:Expr)(t:TE):Prop:=
 ∀ (pins:List (Addr×Obj))(s:Shared)(σ:St)(H:Hp)(Q:VK),Inv X pins σ H s→t σ H Q→wpAny (model X.prog X.w) X.A (eval e X.env) (EP X pins σ Q) X.xe s
def PT (X:Cx)(e:Expr)(t:TT):Prop:=
 ∀ (pins:List (Addr×Obj))(s:Shared)(σ:St)(H:Hp)(Q:Bool→Hp→Prop),Inv X pins σ H s→t σ H Q→wpAny (model X.prog X.w) X.A (isTrue e X.env (eval e X.env)) (TP X pins σ Q) X.xe s
def PW (X:Cx)(e:Expr)(t:TT):Prop:=
 ∀ (whole:Sem Value)(pins:List (Addr×Obj))(s:Shared)(σ:St)(H:Hp)(Q:Bool→Hp→Prop),Inv X pins σ H s→t σ H Q→wpAny (model X.prog X.w) X.A (isTrue e X.env whole) (TP X pins σ Q) X.xe s
theorem PW.pt {X:Cx}{e:Expr}{t:TT} (h:PW X e t):PT X e t:=h _
def PA (X:Cx)(es:List Expr)(t:TA):Prop:=
 ∀ (pos:Pos)(pins:List (Addr×Obj))(s:Shared)(σ:St)(H:Hp)(Q:List V→Hp→Prop),Inv X pins σ H s→t σ H Q→wpAny (model X.prog X.w) X.A (spliced (backTo pos (starEach es X.env))) (AP X pins σ Q) X.xe s
def PS (X:Cx)(st:Stmt)(t:TS):Prop:=
 ∀ (pins:List (Addr×Obj))(s:Shared)(σ:St)(H:Hp)(D:fX),Inv X pins σ H s→t D σ H→wpAny (model X.prog X.w) X.A (exec st X.env) (SP X pins D) X.xe s
def PSs (X:Cx)(st:List Stmt)(t:TS):Prop:=
 ∀ (pins:List (Addr×Obj))(s:Shared)(σ:St)(H:Hp)(D:fX),Inv X pins σ H s→t D σ H→wpAny (model X.prog X.w) X.A (execs st X.env) (SP X pins D) X.xe s
theorem thn {α:Type}{t:Sem α}{Q Q':α→Shared→Prop}{M:Model}{A:Around}{E:Value→Shared→Prop}{s:Shared} (h:wpAny M A t Q E s) (hQ:∀ a s,Q a s→Q' a s):wpAny M A t Q' E s:=wpAny_mono h hQ fun _ _ x=>x
section
variable {X : Cx}
def gf (i:Nat):TE:=fun σ H Q=>∃ v,σ[i]?=some (some v)∧Q v H
def tC (v:V):TE:=fun _ H Q=>Q v H
theorem pe_var {i:Nat}{x:Str}{pos:Pos} (hN:X.N[i]?=some x) (hv:Vis X.env.scope x) (hd:(x==("__debug__":Str))=false:=by decide) (hcd:(x==("__classdict__":Str))=false:=by decide):PE X (.Name x pos) (gf i):=by
 intro pins s σ H Q I h
 obtain⟨v,e,h⟩:=h
 obtain⟨m,hn,hl⟩:=I.loc
 obtain⟨u,r,l⟩:=hl i x v hN e hv
 have fin:EP X pins σ Q u s:=⟨v,H,I,r,h⟩
 rcases l with⟨hk,hm⟩|⟨hk,c,hc,hcell⟩
 ·exact wpAny_Name (wpAny_loadName_local I.ok.kind hk hn hm fin) hd
 ·rcases hk with hk|hk
  ·exact wpAny_Name (wpAny_loadName_cell I.ok.kind hk hc hcell fin) hd
  ·exact wpAny_Name (wpAny_loadName_free I.ok.kind hk hc hcell fin hcd) hd
theorem aj {i j pos}:PE X (.Constant (.int i) j pos) (tC (.int i)):=fun _ _ _ H _ I h=>wpAny_Constant_int ⟨.int i,H,I.tok _,⟨_,rfl⟩,h⟩
theorem dh {b j pos}:PE X (.Constant (.bool b) j pos) (tC (.bl b)):=fun _ _ _ H _ I h=>Constant_bool ⟨.bl b,H,I,rfl,h⟩
theorem iy {j pos}:PE X (.Constant .none j pos) (tC .non):=fun _ _ _ H _ I h=>Constant_none ⟨.non,H,I,rfl,h⟩
theorem bu {x j pos}:PE X (.Constant (.str x) j pos) (tC (.str x)):=fun _ _ _ H _ I h=>Calls.Constant_str ⟨.str x,H,I.tok _,⟨_,rfl⟩,h⟩
def Gl (X:Cx)(x:Str):Prop:=X.env.kindOf x=some .globalImplicit
theorem cx {E:Value→Shared→Prop}{pins:List (Addr×Obj)}{s:Shared}{σ:St}{H:Hp}{x:Str}{u:Value}{pos:Pos}{Q:Value→Shared→Prop} (I:Inv X pins σ H s) (hg:Gl X x) (hm:X.mg x=some u) (h:Q u s)
  (hd:(x==("__debug__":Str))=false:=by decide):wpAny (model X.prog X.w) X.A (eval (.Name x pos) X.env) Q E s:=
 Calls.Name_function_global I.ok.kind hg (Calls.loadGlobal_global (by rw[I.ok.glob];exact I.mod.glob.keeps I.bk) hm h) hd
theorem iE {E:Value→Shared→Prop}{pins:List (Addr×Obj)}{s:Shared}{σ:St}{H:Hp}{x:Str}{u:Value}{pos:Pos}{Q:Value→Shared→Prop} (I:Inv X pins σ H s) (hg:Gl X x) (hm:X.mg x=none) (hv:bootBuiltins x=some u) (h:Q u s)
  (hn:x≠"__name__":=by decide) (hd:(x==("__debug__":Str))=false:=by decide):wpAny (model X.prog X.w) X.A (eval (.Name x pos) X.env) Q E s:=by
 obtain⟨mb,h1,h2⟩:=I.mod.blt
 exact Calls.Name_function_global I.ok.kind hg (Calls.loadGlobal_builtin (by rw[I.ok.glob];exact I.mod.glob.keeps I.bk) hm (by rw[I.ok.blt];exact h1.keeps I.bk) ((h2 x hn).trans hv) h) hd
theorem eh {x:Str}{v:V}{u:Value}{pos:Pos} (hg:Gl X x) (hm:X.mg x=some u) (r:RelV v u) (hd:(x==("__debug__":Str))=false:=by decide):PE X (.Name x pos) (tC v):=
 fun _ _ _ H _ I h=>cx I hg hm ⟨v,H,I,r,h⟩ hd
theorem jg {x:Str}{v:V}{u:Value}{pos:Pos} (hg:Gl X x) (hm:X.mg x=none) (hv:bootBuiltins x=some u) (r:RelV v u) (hn:x≠"__name__":=by decide) (hd:(x==("__debug__":Str))=false:=by decide):PE X (.Name x pos) (tC v):=
 fun _ _ _ H _ I h=>iE I hg hm hv ⟨v,H,I,r,h⟩ hn hd
variable {a b : Expr}{ta tb : TE}{pos : Pos}
def PC (X:Cx)(op:CmpOp)(a b:Expr)(t:TE):Prop:=
 ∀ (pins:List (Addr×Obj))(s:Shared)(σ:St)(H:Hp)(Q:VK),Inv X pins σ H s→t σ H Q→
  wpAny (model X.prog X.w) X.A (eval a X.env) (fun v s₁=>wpAny (model X.prog X.w) X.A (eval b X.env) (fun u s₂=>wpAny (model X.prog X.w) X.A (compareOp op v u) (EP X pins σ Q) X.xe s₂) X.xe s₁) X.xe s
def tB (t:TE):TT:=fun σ H Q=>t σ H fun x H1=>∃ c,x=.bl c∧Q c H1
theorem mj {op:CmpOp}{t:TE} (h:PC X op a b t) (h1:behindInMarks op b=false:=by first|exact tU _ (by decide) (by decide)|rfl):PT X (.Compare a [op] [b] pos) (tB t):=by
 intro pins s σ H Q I hw
 refine wpAny_isTrue_Compare1 (thn (h pins s σ H _ I hw) fun v s1 h1=>thn h1 fun u s2 h2=>thn h2 fun c s3 ⟨x,H1,I1,r1,q1⟩=>?_) h1
 obtain⟨d,rfl,q⟩:=q1
 cases r1
 exact wpAny_truthy_bool ⟨H1,I1,q⟩
theorem dv {e:Expr}{t:TE} (h:PE X e t) (he:∀ whole,isTrue e X.env whole=(do let v ← whole;standAt e.pos;holding [v] (truthy v)):=by intro _;rfl):PT X e (tB t):=by
 intro pins s σ H Q I hw
 refine isTrue_plain (thn (h pins s σ H _ I hw) fun v s1 ⟨x,H1,I1,r1,q1⟩=>?_) (he _)
 obtain⟨d,rfl,q⟩:=q1
 cases r1
 exact wpAny_truthy_bool ⟨H1,I1,q⟩
variable {tA tB' : TT}{rest : List Expr}
def tAnd (t u:TT):TT:=fun σ H Q=>t σ H fun c H1=>if c=true then u σ H1 Q else Q false H1
def tOr (t u:TT):TT:=fun σ H Q=>t σ H fun c H1=>if c=true then Q true H1 else u σ H1 Q
def tNot (t:TT):TT:=fun σ H Q=>t σ H fun c H1=>Q (!c) H1
theorem ef (ha:PT X a tA):PW X (.BoolOp .And [a] pos) tA:=by
 intro wh pins s σ H Q I h
 refine isTrue_and (thn (ha pins s σ H Q I h) fun c s1 e=>?_)
 cases c with
 | true=>exact isTrue_and_nil e
 | false=>exact e
theorem pO (ha:PT X a tA):PW X (.BoolOp .Or [a] pos) tA:=by
 intro wh pins s σ H Q I h
 refine isTrue_or (thn (ha pins s σ H Q I h) fun c s1 e=>?_)
 cases c with
 | false=>exact isTrue_or_nil e
 | true=>exact e
theorem fh (ha:PT X a tA)(hb:PW X (.BoolOp .And (b::rest) pos) tB'):PW X (.BoolOp .And (a::b::rest) pos) (tAnd tA tB'):=by
 intro wh pins s σ H Q I h
 refine isTrue_and (thn (ha pins s σ H _ I h) fun c s1 ⟨H1,I1,q1⟩=>?_)
 cases c with
 | true=>exact hb wh pins s1 σ H1 Q I1 q1
 | false=>exact⟨H1,I1,q1⟩
theorem qK (ha:PT X a tA)(hb:PW X (.BoolOp .Or (b::rest) pos) tB'):PW X (.BoolOp .Or (a::b::rest) pos) (tOr tA tB'):=by
 intro wh pins s σ H Q I h
 refine isTrue_or (thn (ha pins s σ H _ I h) fun c s1 ⟨H1,I1,q1⟩=>?_)
 cases c with
 | true=>exact⟨H1,I1,q1⟩
 | false=>exact hb wh pins s1 σ H1 Q I1 q1
theorem gD (ha:PT X a tA):PT X (.UnaryOp .Not a pos) (tNot tA):=by
 intro pins s σ H Q I h
 exact isTrue_not (ha pins s σ H (fun c H1=>Q (!c) H1) I h)
def tAndV (ta tb:TE):TE:=fun σ H Q=>ta σ H fun x H1=>∃ c,x=.bl c∧if c=true then tb σ H1 Q else Q (.bl false) H1
def tNotV (ta:TE):TE:=fun σ H Q=>ta σ H fun x H1=>∃ c,x=.bl c∧Q (.bl (!c)) H1
theorem mr {op}{t:TE} (h:PE X a t):PE X (.BoolOp op [a] pos) t:=fun pins s σ H Q I hw=>BoolOp_one (h pins s σ H Q I hw)
theorem mw (ha:PE X a ta)(hb:PE X (.BoolOp .And (b::rest) pos) tb):PE X (.BoolOp .And (a::b::rest) pos) (tAndV ta tb):=by
 intro pins s σ H Q I h
 refine BoolOp_and (thn (ha pins s σ H _ I h) fun v s1 ⟨x,H1,I1,r1,q1⟩=>?_)
 obtain⟨c,rfl,q1⟩:=q1
 cases r1
 refine wpAny_truthy_bool ?_
 cases c with
 | true=>exact hb pins s1 σ H1 Q I1 q1
 | false=>exact⟨.bl false,H1,I1,rfl,q1⟩
theorem pe_not (ha:PE X a ta):PE X (.UnaryOp .Not a pos) (tNotV ta):=by
 intro pins s σ H Q I h
 refine UnaryOp_ (thn (ha pins s σ H _ I h) fun v s1 ⟨x,H1,I1,r1,q1⟩=>?_)
 obtain⟨c,rfl,q1⟩:=q1
 cases r1
 exact not_of (wpAny_truthy_bool ⟨.bl (!c),H1,I1,rfl,q1⟩)
def tIf (t:TT)(ta tb:TE):TE:=fun σ H Q=>t σ H fun c H1=>if c=true then ta σ H1 Q else tb σ H1 Q
theorem nE {c:Expr}(hc:PT X c tA)(ha:PE X a ta)(hb:PE X b tb):PE X (.IfExp c a b pos) (tIf tA ta tb):=by
 intro pins s σ H Q I h
 refine wpAny_IfExp (thn (hc pins s σ H _ I h) fun d s1 ⟨H1,I1,q1⟩=>?_)
 cases d with
 | true=>exact ha pins s1 σ H1 Q I1 q1
 | false=>exact hb pins s1 σ H1 Q I1 q1
end
def SqL (K:PySem.W.Frag)(H:Hp)(a:Addr)(xs:List V):Prop:=
 Rd H a (.lst xs) ∨
  ∃ (o:Obj)(its:Array Value)(n:Nat),K.lookup a=some o∧o.cls=.type "list"∧o.dict=none∧o.data=.seq its n∧its.size≤sizeLine∧Vals xs its.toList
def SqT (K:PySem.W.Frag)(H:Hp)(a:Addr)(xs:List V):Prop:=
 Rd H a (.tup xs) ∨
  ∃ (o:Obj)(its:Array Value)(n:Nat),K.lookup a=some o∧o.cls=.type "tuple"∧o.data=.seq its n∧its.size≤sizeLine∧Vals xs its.toList
def absV:Value→Option V
 | .none=>some .non
 | .bool b=>some (.bl b)
 | .int i _=>some (.int i)
 | .str x _=>some (.str x)
 | .bytes b _=>some (.byt b)
 | .float b _=>some (.flt b)
 | .ref a=>some (.ref a)
 | .type n=>some (.ty n)
 | _=>none
theorem RelV.abs {x:V}{u:Value} (r:RelV x u):absV u=some x:=by
 cases x with
 | non=>cases r;rfl
 | bl _=>cases r;rfl
 | int _=>obtain⟨t,rfl⟩:=r;rfl
 | str _=>obtain⟨t,rfl⟩:=r;rfl
 | byt _=>obtain⟨t,rfl⟩:=r;rfl
 | flt _=>obtain⟨t,rfl⟩:=r;rfl
 | ref _=>cases r;rfl
 | ty _=>cases r;rfl
theorem RelV.inj {x y:V}{u:Value} (r:RelV x u) (q:RelV y u):x=y:=Option.some.inj (r.abs.symm.trans q.abs)
theorem Vals.inj:∀ {xs ys:List V}{us:List Value},Vals xs us→Vals ys us→xs=ys
 | _,_,_,.nil,.nil=>rfl
 | _,_,_,.cons r t,.cons r' t'=>by rw[r.inj r',Vals.inj t t']
section
variable {X : Cx}{pins : List (Addr×Obj)}{σ : St}{H : Hp}{s : Shared}{a : Addr}{xs ys : List V}
theorem SqL.of {K:PySem.W.Frag}(h:H a=some (.lst xs)):SqL K H a xs:=.inl (.inl h)
theorem SqT.of {K:PySem.W.Frag}(h:H a=some (.tup xs)):SqT K H a xs:=.inl (.inl h)
theorem Inv.list (I:Inv X pins σ H s)(h:SqL X.K H a xs):∃ its:List Value,Vals xs its∧PlainL s.heap a its.toArray∧xs.length≤sizeLine:=by
 rcases h with h|⟨o,its,n,hk,hc,hd,hs,hz,r⟩
 ·obtain⟨z,its,n,r,e⟩:=h.ok I.hok
  exact⟨its,r,⟨_,n,e,rfl,rfl,rfl⟩,z⟩
 ·refine⟨its.toList,r,⟨o,n,I.kIn a o hk,hc,hd,by simpa using hs⟩,?_⟩
  have e:=r.length
  simp only[Array.length_toList]at e
  omega
theorem Inv.tuple (I:Inv X pins σ H s)(h:SqT X.K H a xs):∃ its:List Value,Vals xs its∧IsTup s.heap a its.toArray∧xs.length≤sizeLine:=by
 rcases h with h|⟨o,its,n,hk,hc,hs,hz,r⟩
 ·obtain⟨z,its,r,p⟩:=h.ok I.hok
  exact⟨its,r,p,z⟩
 ·refine⟨its.toList,r,⟨o,I.kIn a o hk,hc,n,by simpa using hs⟩,?_⟩
  have e:=r.length
  simp only[Array.length_toList]at e
  omega
theorem Inv.list_inj (I:Inv X pins σ H s)(h:SqL X.K H a xs)(h':SqL X.K H a ys):xs=ys:=by
 obtain⟨its,r,⟨o,n,e,_,_,d⟩,_⟩:=I.list h
 obtain⟨its',r',⟨o',n',e',_,_,d'⟩,_⟩:=I.list h'
 rw[e]at e';cases e'
 rw[d]at d'
 injection d' with d1 _
 have:its=its':=by simpa using congrArg Array.toList d1
 subst this
 exact r.inj r'
end
abbrev Cx.wish (X:Cx)(E:Value→Shared→Prop):Cx:={ X with xe:=E }
abbrev Cx.nox (X:Cx):Cx:=X.wish fun _ _=>False
theorem Cx.Ok.wish {X:Cx}(ok:X.Ok)(E:Value→Shared→Prop):(X.wish E).Ok:=
 ⟨ok.mod,ok.kind,ok.glob,ok.blt,ok.above,ok.inj,ok.has,ok.cab,ok.hd,ok.frames,ok.stk,ok.exf,ok.bs,ok.bsz,ok.noex,ok.exfs,ok.funs,ok.frf⟩
theorem Cx.Ok.unwish {X:Cx}{E:Value→Shared→Prop} (ok:(X.wish E).Ok):X.Ok:=
 ⟨ok.mod,ok.kind,ok.glob,ok.blt,ok.above,ok.inj,ok.has,ok.cab,ok.hd,ok.frames,ok.stk,ok.exf,ok.bs,ok.bsz,ok.noex,ok.exfs,ok.funs,ok.frf⟩
section
variable {X : Cx}{pins : List (Addr×Obj)}{σ : St}{H : Hp}{s : Shared}{E : Value → Shared → Prop}
theorem Inv.wish (I:Inv X pins σ H s)(E:Value→Shared→Prop):Inv (X.wish E) pins σ H s:=⟨I.ok.wish E,I.os,I.bare,I.base,I.loc,I.cell,I.free,I.freeC,I.pin,I.hok,I.len⟩
theorem Inv.unwish (I:Inv (X.wish E) pins σ H s):Inv X pins σ H s:=⟨I.ok.unwish,I.os,I.bare,I.base,I.loc,I.cell,I.free,I.freeC,I.pin,I.hok,I.len⟩
theorem SP.unwish {D:fX}{f:Flow}{s':Shared} (h:SP (X.wish E) pins D f s'):SP X pins D f s':=by
 cases f with
 | next=>obtain⟨σ',H',I,q⟩:=h;exact⟨σ',H',I.unwish,q⟩
 | brk=>obtain⟨σ',H',I,q⟩:=h;exact⟨σ',H',I.unwish,q⟩
 | cont=>obtain⟨σ',H',I,q⟩:=h;exact⟨σ',H',I.unwish,q⟩
 | ret u=>obtain⟨v,σ',H',I,r,q⟩:=h;exact⟨v,σ',H',I.unwish,r,q⟩
theorem PSs.nox {st:List Stmt}{t:TS} (h:PSs X.nox st t):PSs X st t:=fun pins s σ H D I hw=>
 wpAny_mono (h pins s σ H D (I.wish _) hw) (fun _ _ q=>q.unwish) fun _ _ z=>False.elim z
end
section
variable {X : Cx}{st : Stmt}{rest : List Stmt}{t u : TS}{e : Expr}{te : TE}{pos : Pos}
def tNext:TS:=fun D σ H=>D.nx σ H
def tSeq (t u:TS):TS:=fun D σ H=>t { D with nx:=u D } σ H
theorem aH:PSs X [] tNext:=fun _ _ σ H _ I h=>wpAny_execs_nil ⟨σ,H,I,h⟩
theorem ad (h1:PS X st t)(h2:PSs X rest u):PSs X (st::rest) (tSeq t u):=by
 intro pins s σ H D I h
 refine wpAny_execs_cons (thn (h1 pins s σ H { D with nx:=u D } I h) fun f s1 q=>?_)
 cases f with
 | next=>
  obtain⟨σ',H',I',q⟩:=q
  exact h2 pins s1 σ' H' D I' q
 | ret v=>exact q
 | brk=>exact q
 | cont=>exact q
theorem af (h1:PS X st t):PSs X [st] t:=by
 intro pins s σ H D I h
 refine wpAny_execs_cons (thn (h1 pins s σ H D I h) fun f s1 q=>?_)
 cases f with
 | next=>exact wpAny_execs_nil q
 | ret v=>exact q
 | brk=>exact q
 | cont=>exact q
theorem Inv.quiet {pins:List (Addr×Obj)}{σ:St}{H:Hp}{s:Shared} (I:Inv X pins σ H s):interactive X.env=false:=by simp[interactive,I.ok.kind]
def tDrop (te:TE):TS:=fun D σ H=>te σ H fun _ H1=>D.nx σ H1
theorem aF (he:PE X e te)(hs:swapsWith e none pos.line X.env=pure false:=by rfl):PS X (.Expr e pos) (tDrop te):=by
 intro pins s σ H D I h
 exact wpAny_Expr_any (thn (he pins s σ H _ I h) fun v s1 ⟨x,H1,I1,r1,q1⟩=>⟨σ,H1,I1,q1⟩) I.quiet hs
def tRet (te:TE):TS:=fun D σ H=>te σ H D.rt
theorem ay (he:PE X e te):PS X (.Return (some e) pos) (tRet te):=by
 intro pins s σ H D I h
 exact wpAny_Return_some (thn (he pins s σ H _ I h) fun v s1 ⟨x,H1,I1,r1,q1⟩=>⟨x,σ,H1,I1,r1,q1⟩)
def tIfS (c:TT)(t u:TS):TS:=fun D σ H=>c σ H fun b H1=>if b=true then t D σ H1 else u D σ H1
theorem bB {c:Expr}{a b:List Stmt}{tc:TT} (hc:PT X c tc) (ha:PSs X a t) (hb:PSs X b u):PS X (.If c a b pos) (tIfS tc t u):=by
 intro pins s σ H D I h
 refine wpAny_If (thn (hc pins s σ H _ I h) fun d s1 ⟨H1,I1,q1⟩=>?_)
 cases d with
 | true=>exact ha pins s1 σ H1 D I1 q1
 | false=>exact hb pins s1 σ H1 D I1 q1
def tNever:TS:=fun _ _ _=>False
theorem tj:PS X st tNever:=fun _ _ _ _ _ _ h=>h.elim
end
abbrev TG:=V→St→Hp→(St→Hp→Prop)→Prop
abbrev TGs:=List V→St→Hp→(St→Hp→Prop)→Prop
def PG (X:Cx)(target:Expr)(t:TG):Prop:=
 ∀ (pins:List (Addr×Obj))(s:Shared)(σ:St)(H:Hp)(v:V)(u:Value)(Q:St→Hp→Prop),Inv X pins σ H s→RelV v u→t v σ H Q→
  wpAny (model X.prog X.w) X.A (assign target X.env u) (fun _ s'=>∃ σ' H',Inv X pins σ' H' s'∧Q σ' H') X.xe s
def PGs (X:Cx)(ts:List Expr)(t:TGs):Prop:=
 ∀ (pins:List (Addr×Obj))(s:Shared)(σ:St)(H:Hp)(vs:List V)(us:List Value)(Q:St→Hp→Prop),Inv X pins σ H s→Vals vs us→t vs σ H Q→
  wpAny (model X.prog X.w) X.A (assignInOrder ((assignEach ts X.env).map (·.2)) us) (fun _ s'=>∃ σ' H',Inv X pins σ' H' s'∧Q σ' H') X.xe s
abbrev TIp:=V→V→Hp→VK→Prop
def PIp (X:Cx)(op:Operator)(t:TIp):Prop:=
 ∀ (pins:List (Addr×Obj))(s:Shared)(σ:St)(H:Hp)(x y:V)(v u:Value)(Q:VK),Inv X pins σ H s→RelV x v→RelV y u→t x y H Q→
  wpAny (model X.prog X.w) X.A (inplaceOp op v u) (EP X pins σ Q) X.xe s
section
variable {X : Cx}{pos : Pos}
def bg (i:Nat):TG:=fun v σ H Q=>Q (σ.set i (some v)) H
theorem ai {i:Nat}{x:Str} (hN:X.N.Nodup) (hi:X.N[i]?=some x) (hx:Loc X.env.scope x) (hf:X.fn x=true∨X.env.scope.names.lookup x=some .local:=by first|exact .inl rfl|exact .inr rfl|assumption):PG X (.Name x pos) (bg i):=by
 intro pins s σ H v u Q I r h
 exact wpAny_assign_Name (gQ I hN hi hx r (fun s' I'=>⟨_,H,I',h⟩) hf)
def sB:TGs:=fun vs σ H Q=>vs=[]∧Q σ H
def dR (t:TG)(u:TGs):TGs:=fun vs σ H Q=>∃ v r,vs=v::r∧t v σ H fun σ' H'=>u r σ' H' Q
theorem bh:PGs X [] sB:=by
 intro pins s σ H vs us Q I r h
 obtain⟨e,h⟩:=h
 subst e
 cases r
 exact assignInOrder_nil ⟨σ,H,I,h⟩
theorem ak {e:Expr}{es:List Expr}{t:TG}{u:TGs} (h1:PG X e t) (h2:PGs X es u)
  (hs:(assignEach (e::es) X.env).map (·.2)=assign e X.env::(assignEach es X.env).map (·.2):=by rfl):PGs X (e::es) (dR t u):=by
 intro pins s σ H vs us Q I r h
 obtain⟨v,vr,e1,h⟩:=h
 subst e1
 cases r with
 | cons r rr=>
  rw[hs]
  refine assignInOrder_cons (thn (h1 pins s σ H _ _ _ I r h) fun _ s1 ⟨σ1,H1,I1,q1⟩=>?_)
  exact h2 pins s1 σ1 H1 _ _ Q I1 rr q1
def ql (K:PySem.W.Frag)(n:Nat)(t:TGs):TG:=fun v σ H Q=>∃ a xs,v=.ref a∧SqT K H a xs∧xs.length=n∧t xs σ H Q
theorem pg_tup {es:List Expr}{k:Nat}{t:TGs}{n:Nat} (hc:X.calm=true) (h:PGs X es t)
  (hn:(assignEach es X.env).length=n:=by rfl) (hst:(assignEach es X.env).findIdx? (·.1)=none:=by rfl):PG X (.Tuple es k pos) (ql X.K n t):=by
 intro pins s σ H v u Q I r hw
 obtain⟨a,xs,e1,hq,hl,hw⟩:=hw
 subst e1
 cases r
 obtain⟨its,rv,ht,hz⟩:=I.tuple hq
 refine assign_Tuple_tuple (I.ok.hd hc) ht (by simp[hn,← hl,rv.length]) hst fun h' hx=>?_
 have I1:Inv X pins σ H { s with heap:=h' }:=I.kept (t':=s.toks) fun b o e=>hx b o (Nat.ne_of_lt (Heap.lt_size e)) e
 exact h pins _ σ H xs _ Q I1 (by simpa using rv) hw
def tAsg (te:TE)(g:TG):TS:=fun D σ H=>te σ H fun x H1=>g x σ H1 D.nx
theorem tq {tg e:Expr}{te:TE}{g:TG} (he:PE X e te) (hg:PG X tg g) (hs:swapsWithSole [tg] e pos.line X.env=pure false:=by rfl) (hw:swappedStores [tg] e X.env=pure none:=by rfl)
  (h1:(assignEach [tg] X.env).map (·.2)=[assign tg X.env]:=by rfl):PS X (.Assign [tg] e pos) (tAsg te g):=by
 intro pins s σ H D I h
 refine wpAny_Assign_stores (thn (he pins s σ H _ I h) fun v s1 ⟨x,H1,I1,r1,q1⟩=>?_) hs hw
 rw[h1]
 exact thn (hg pins s1 σ H1 x v _ I1 r1 q1) fun _ s2 q=>q
theorem au {i:Nat}{x:Str}{e:Expr}{te:TE}{pos':Pos} (hN:X.N.Nodup) (hi:X.N[i]?=some x) (hx:Loc X.env.scope x) (he:PE X e te) (hs:swapsWith e (some (.Name x pos')) pos.line X.env=pure false:=by rfl) (hf:X.fn x=true∨X.env.scope.names.lookup x=some .local:=by first|exact .inl rfl|exact .inr rfl|assumption):
  PS X (.Assign [.Name x pos'] e pos) (tAsg te (bg i)):=by
 intro pins s σ H D I h
 refine wpAny_Assign_Name (thn (he pins s σ H _ I h) fun v s1 ⟨y,H1,I1,r1,q1⟩=>?_) hs
 exact gQ I1 hN hi hx r1 (fun s2 I2=>⟨_,H1,I2,q1⟩) hf
def tAug (i:Nat)(te:TE)(ti:TIp):TS:=fun D σ H=>∃ x,σ[i]?=some (some x)∧te σ H fun y H1=>ti x y H1 fun z H2=>D.nx (σ.set i (some z)) H2
theorem ps_aug {i:Nat}{x:Str}{e:Expr}{te:TE}{op:Operator}{ti:TIp}{pos':Pos} (hN:X.N.Nodup) (hi:X.N[i]?=some x) (hx:Loc X.env.scope x) (he:PE X e te) (ho:PIp X op ti) (hf:X.fn x=true∨X.env.scope.names.lookup x=some .local:=by first|exact .inl rfl|exact .inr rfl|assumption):
  PS X (.AugAssign (.Name x pos') op e pos) (tAug i te ti):=by
 intro pins s σ H D I h
 obtain⟨v,e1,h⟩:=h
 obtain⟨m,hn,hl⟩:=I.loc
 have vis:Vis X.env.scope x:=by rcases hx with k|k;exact .inl k;exact .inr (.inl k)
 obtain⟨u,r,l⟩:=hl i x v hi e1 vis
 refine wpAny_AugAssign_Name ?_
 have go:wpAny (model X.prog X.w) X.A (eval e X.env) (fun w s₂=>wpAny (model X.prog X.w) X.A (inplaceOp op u w) (fun r s₃=>wpAny (model X.prog X.w) X.A (storeName X.env x r) (fun _=>SP X pins D .next) X.xe s₃) X.xe s₂) X.xe s:=by
  refine thn (he pins s σ H _ I h) fun w s1 ⟨y,H1,I1,r1,q1⟩=>?_
  refine thn (ho pins s1 σ H1 v y u w _ I1 r r1 q1) fun z s2 ⟨zv,H2,I2,r2,q2⟩=>?_
  exact gQ I2 hN hi hx r2 (fun s3 I3=>⟨_,H2,I3,q2⟩) hf
 rcases l with⟨hk,hm⟩|⟨hk,c,hc,hcell⟩
 ·exact wpAny_loadName_local I.ok.kind hk hn hm go
 ·rcases hk with hk|hk
  ·exact wpAny_loadName_cell I.ok.kind hk hc hcell go
  ·rcases hx with k|k
   ·have:X.env.scope.names.lookup x=some .free:=hk
    rw[k]at this;cases this
   ·have:X.env.scope.names.lookup x=some .free:=hk
    rw[k]at this;cases this
def ipI (f:Int→Int→Int):TIp:=fun x y H Q=>∃ i j,x=.int i∧y=.int j∧Q (.int (f i j)) H
theorem ip_add:PIp X .Add (ipI fun i j=>i+j):=by
 intro pins s σ H x y v u Q I r1 r2 h
 obtain⟨i,j,e1,e2,q⟩:=h
 subst e1;subst e2
 obtain⟨t,rfl⟩:=r1
 obtain⟨t',rfl⟩:=r2
 exact iadd_int ⟨.int _,H,I.tok _,⟨_,rfl⟩,q⟩
end
section
variable {X : Cx}{pos : Pos}
def tWhile (c:TT)(tb:TS):TS:=fun D σ H=>∃ W:Nat→St→Hp→Prop,(∃ m,W m σ H)∧∀ m σ H,W m σ H→
 c σ H fun b H1=>if b=true then ∃ N:St→Hp→Prop,(∀ σ' H',N σ' H'→∃ m',m'<m∧W m' σ' H')∧tb { D with nx:=N,ct:=N,bk:=D.nx } σ H1 else D.nx σ H1
theorem gU {c:Expr}{body:List Stmt}{tc:TT}{tb:TS} (hp:PassesOwn (model X.prog X.w) X.A X.env X.xe) (hc:PT X c tc) (hb:PSs X body tb):PS X (.While c body [] pos) (tWhile tc tb):=by
 intro pins s σ H D I h
 obtain⟨W,⟨m0,w0⟩,turn⟩:=h
 refine wpAny_While (codeAny_whileLoop (fun n s'=>∃ σ' H',Inv X pins σ' H' s'∧W n σ' H') ?_ m0 ⟨σ,H,I,w0⟩)
 rintro n s1 ⟨σ1,H1,I1,w1⟩
 refine wpAny_passesOwn hp (thn (hc pins s1 σ1 H1 _ I1 (turn n σ1 H1 w1)) fun b s2 ⟨H2,I2,q2⟩=>?_)
 cases b with
 | true=>
  obtain⟨N,hN,q2⟩:=q2
  rw[if_pos rfl]
  refine wpAny_passesOwn hp (thn (hb pins s2 σ1 H2 _ I2 q2) fun f s3 q3=>?_)
  cases f with
  | next=>
   obtain⟨σ3,H3,I3,n3⟩:=q3
   obtain⟨m',hm,w3⟩:=hN σ3 H3 n3
   exact⟨m',hm,σ3,H3,I3,w3⟩
  | cont=>
   obtain⟨σ3,H3,I3,n3⟩:=q3
   obtain⟨m',hm,w3⟩:=hN σ3 H3 n3
   exact⟨m',hm,σ3,H3,I3,w3⟩
  | brk=>exact q3
  | ret v=>exact q3
 | false=>
  rw[if_neg Bool.false_ne_true]
  exact wpAny_execs_nil ⟨σ1,H2,I2,q2⟩
end
structure It where
  go : Nat → Hp → Prop
  yld : Nat → Hp → V → Hp → Prop
  stop : Nat → Hp → Prop
def jb (X:Cx)(pins:List (Addr×Obj))(H:Hp)(b:Addr):Prop:=
 H b=none∧b≠X.env.locals∧b∉X.fs∧(b∈X.ex∨X.s₀.heap.objs.size≤b)∧(∀ x c,X.env.cells.lookup x=some c→c≠b)∧∀ p∈X.pn++pins,p.1≠b
theorem Inv.fpOk {X:Cx}{pins:List (Addr×Obj)}{σ:St}{H H':Hp}{s:Shared}{b:Addr} (I:Inv X pins σ H s) (hb:s.heap.objs.size≤b) (hn:H' b=none):jb X pins H' b:=by
 refine⟨hn,Nat.ne_of_gt (Nat.lt_of_lt_of_le I.lt hb),I.nofs hb,.inr (Nat.le_trans I.sz hb),fun x c e z=>?_,fun p hp z=>?_⟩
 ·obtain⟨v,q⟩:=I.cell x c e
  exact absurd (Nat.lt_of_lt_of_le q.lt (by rw[z];exact hb)) (Nat.lt_irrefl _)
 ·exact absurd (Nat.lt_of_lt_of_le (Heap.lt_size (I.pin p hp).1) (by rw[z];exact hb)) (Nat.lt_irrefl _)
structure Turn0 (Cc : Cx → Prop) (P : Program) (w : World) (K : PySem.W.Frag) (tg : Expr) (J : It) (fp : List Addr) (it : Addr) (tn : Nat → Heap → Prop) : Prop where
  mem : it ∈ fp
  obj : ∀ i h, tn i h → ∀ b ∈ fp, ∃ o, h.get? b = some o ∧ ∀ v, o.data ≠ .cell v
  keep : ∀ i h h', tn i h → (∀ b ∈ fp, ∀ o, h.get? b = some o → h'.get? b = some o) → tn i h'
  item : ∀ (X : Cx), X.prog = P → X.w = w → X.K = K → Cc X → ∀ (i : Nat) (pins : List (Addr × Obj)) (s : Shared) (σ : St) (H : Hp) (E : Value → Shared → Prop), Inv X pins σ H s → (∀ b ∈ fp, jb X pins H b) → tn i s.heap → J.go i H →
    wpAny (model P w) X.A (pyNext (.ref it)) (fun r s1 => ∃ u, r = some u ∧
      wpAny (model P w) X.A (letOwnedTupleGo tg (.ref it) u) (fun _ s2 => ∃ x H', Inv X pins σ H' s2 ∧ RelV x u ∧ J.yld i H x H' ∧ tn (i + 1) s2.heap ∧ ∀ b ∈ fp, H' b = none) E s1) E s
  done : ∀ (X : Cx), X.prog = P → X.w = w → X.K = K → Cc X → ∀ (i : Nat) (pins : List (Addr × Obj)) (s : Shared) (σ : St) (H : Hp) (E : Value → Shared → Prop), Inv X pins σ H s → (∀ b ∈ fp, jb X pins H b) → tn i s.heap → J.stop i H →
    wpAny (model P w) X.A (pyNext (.ref it)) (fun r s1 => r = none ∧ Inv X pins σ H s1) E s
  self : ∀ (A : Around) (i : Nat) (s : Shared) (Q : Value → Shared → Prop) (E : Value → Shared → Prop), tn i s.heap → Q (.ref it) s → wpAny (model P w) A (pyIter (.ref it)) Q E s
abbrev p9:=Turn0 fun X=>X.calm=true
abbrev TI:=St→Hp→(It→Hp→Prop)→Prop
def PIE0 (Cc:Cx→Prop)(X:Cx)(pins:List (Addr×Obj))(σ:St)(tg:Expr)(R:It→Hp→Prop)(itv:Value)(s2:Shared):Prop:=
 ∃ (it:Addr)(fp:List Addr)(tn:Nat→Heap→Prop)(J:It)(H':Hp),itv=.ref it∧Inv X pins σ H' s2∧Turn0 Cc X.prog X.w X.K tg J fp it tn∧tn 0 s2.heap∧(∀ b∈fp,jb X pins H' b)∧R J H'
def PI0 (Cc:Cx→Prop)(X:Cx)(tg iter:Expr)(wi:TI):Prop:=
 ∀ (pins:List (Addr×Obj))(s:Shared)(σ:St)(H:Hp)(R:It→Hp→Prop),Inv X pins σ H s→wi σ H R→
  wpAny (model X.prog X.w) X.A (eval iter X.env) (fun v s1=>wpAny (model X.prog X.w) X.A (pyIter v) (PIE0 Cc X pins σ tg R) X.xe s1) X.xe s
abbrev PIE:=PIE0 fun X=>X.calm=true
abbrev PI:=PI0 fun X=>X.calm=true
theorem oz {M : Model} {A : Around} {E : Value → Shared → Prop} {s : Shared} {tg : Expr} {it : Addr} {u : Value} {o : Obj} {n : String} {vs : Array Value} {Q : Unit → Shared → Prop} (ho : s.heap.get? it = some o) (hc : o.cls = .type n) (hd : o.data = .fields vs)
    (hn : ["enumerate", "zip", "dict_itemiterator", "dict_reverseitemiterator", "odict_iterator", "itertools.zip_longest", "itertools.pairwise"].contains n = false) (hQ : Q () s) : wpAny M A (letOwnedTupleGo tg (.ref it) u) Q E s := by
  unfold letOwnedTupleGo
  cases tg <;> first
    | exact wpAny_pure hQ
    | (cases u <;> first
        | exact wpAny_pure hQ
        | (refine wpAny_bind (wpAny_load ho ?_)
           rw [hc, hd]
           show wpAny M A (if (["enumerate", "zip", "dict_itemiterator", "dict_reverseitemiterator", "odict_iterator", "itertools.zip_longest", "itertools.pairwise"].contains n && vs[0]? == some (rawInt _)) = true then _ else _) Q E s
           rw [if_neg (by intro h; rw [hn, Bool.false_and] at h; cases h)]
           exact wpAny_pure hQ))
def Itl (K:PySem.W.Frag)(a:Addr):It:=
 ⟨fun i H=>∃ xs x,SqL K H a xs∧xs[i]?=some x,fun i H x H'=>H'=H∧∀ xs,SqL K H a xs→xs[i]?=some x,fun i H=>∃ xs,SqL K H a xs∧xs.length≤i⟩
def Itr (lo:Int)(n:Nat):It:=⟨fun i _=>i<n,fun i H x H'=>H'=H∧x=.int (lo+i),fun i _=>n≤i⟩
theorem rJ {P:Program}{w:World}{K:PySem.W.Frag}{tg:Expr} (a it:Addr):p9 P w K tg (Itl K a) [it] it (fun i h=>h.IsListIter it a i) where
 mem:=by simp
 obj:=fun i h st b hb=>by
  have e:b=it:=by simpa using hb
  subst e
  obtain⟨o,e,c,d⟩:=st
  exact⟨o,e,fun v z=>by rw[d]at z;cases z⟩
 keep:=fun i h h' st k=>st.at fun o e=>k it (by simp) o e
 item:=by
  intro X hP hw hK hc i pins s σ H E I hf st hg
  subst hP hw hK
  obtain⟨xs,x,hq,hx⟩:=hg
  obtain⟨its,rv,p,hz⟩:=I.list hq
  obtain⟨u,hu,ru⟩:=rv.get hx
  obtain⟨f0,f1,f2,f3,f4,f5⟩:=hf it (by simp)
  refine wpAny_pyNext_list_item st p.isList (x:=u) (by simpa using hu) fun h' st' sb=>?_
  have I1:Inv X pins σ H { s with heap:=h' }:=I.turned (t':=s.toks) (fun b o hb e=>(sb.2 b hb).trans e) f0 f1 f3 f4 f5
  obtain⟨o,e,c,d⟩:=id st'
  exact⟨u,rfl,oz (s:={ s with heap:=h' }) e c d (by decide) ⟨x,H,I1,ru,⟨rfl,fun ys hy=>by rw[I.list_inj hy hq];exact hx⟩,st',fun b hb=>(hf b hb).1⟩⟩
 done:=by
  intro X hP hw hK hc i pins s σ H E I hf st hg
  subst hP hw hK
  obtain⟨xs,hq,hx⟩:=hg
  obtain⟨its,rv,p,hz⟩:=I.list hq
  obtain⟨f0,f1,f2,f3,f4,f5⟩:=hf it (by simp)
  have hl:=rv.length
  exact wpAny_pyNext_list_end (I.ok.hd hc) st p.isList (by simp;omega) fun h' eb=>⟨rfl,I.turned (t':=s.toks) (fun b o hb e=>eb b o hb e) f0 f1 f3 f4 f5⟩
 self:=fun _ _ _ _ _ st h=>wpAny_pyIter_listiter st h
theorem pq {P:Program}{w:World}{K:PySem.W.Frag}{tg:Expr} (it:Addr) (lo:Int) (n:Nat):p9 P w K tg (Itr lo n) [it] it (fun i h=>IsRangeIter h it (lo+(i:Nat) * 1) ((n:Int) - (i:Nat)) 1) where
 mem:=by simp
 obj:=fun i h st b hb=>by
  have e:b=it:=by simpa using hb
  subst e
  exact⟨_,st,fun v z=>by
   have z':Data.fields _=Data.cell v:=z
   cases z'⟩
 keep:=fun i h h' st k=>k it (by simp) _ st
 item:=by
  intro X hP hw hK hc i pins s σ H E I hf st hg
  subst hP hw hK
  obtain⟨f0,f1,f2,f3,f4,f5⟩:=hf it (by simp)
  have W:=Walks.range (prog:=X.prog) (w:=X.w) (I.ok.hd hc) it lo 1 n
  refine W.item i s _ _ hg st fun v h' tk hv st' kk=>?_
  obtain⟨t,rfl⟩:=hv
  have I1:Inv X pins σ H { s with heap:=h',toks:=tk }:=I.turned (fun b o hb e=>kk b o (by simpa using hb) e) f0 f1 f3 f4 f5
  refine⟨_,rfl,oz (s:={ s with heap:=h',toks:=tk }) (n:="range_iterator") st' rfl rfl (by decide) ⟨.int (lo+i),H,I1,⟨t,?_⟩,⟨rfl,rfl⟩,st',fun b hb=>(hf b hb).1⟩⟩
  rw[Int.mul_one]
 done:=by
  intro X hP hw hK hc i pins s σ H E I hf st hg
  subst hP hw hK
  obtain⟨f0,f1,f2,f3,f4,f5⟩:=hf it (by simp)
  exact wpAny_pyNext_range_end (I.ok.hd hc) st (by have:n≤i:=hg;omega) fun h' eb=>⟨rfl,I.turned (t':=s.toks) (fun b o hb e=>eb b o hb e) f0 f1 f3 f4 f5⟩
 self:=fun _ _ _ _ _ st h=>wpAny_pyIter_rangeiter st h
section
variable {X : Cx}{tg : Expr}
def u7 (K:PySem.W.Frag)(tl:TE):TI:=fun σ H R=>tl σ H fun x H1=>∃ a,x=.ref a∧(∃ xs,SqL K H1 a xs)∧R (Itl K a) H1
theorem uW {l:Expr}{tl:TE} (hl:PE X l tl):PI X tg l (u7 X.K tl):=by
 intro pins s σ H R I h
 refine thn (hl pins s σ H _ I h) fun v s1 ⟨x,H1,I1,r1,q1⟩=>?_
 obtain⟨a,e,⟨xs,hq⟩,q⟩:=q1
 subst e
 cases r1
 obtain⟨its,rv,p,hz⟩:=I1.list hq
 refine wpAny_pyIter_list p.isList ?_
 refine⟨s1.heap.objs.size,[s1.heap.objs.size],_,_,H1,rfl,I1.kept (t':=s1.toks) fun b o e=>Heap.get?_push_of_some _ e,rJ a _,⟨_,Heap.get?_push_size _ rfl,rfl,rfl⟩,fun b hb=>?_,q⟩
 have e:b=s1.heap.objs.size:=by simpa using hb
 subst e
 exact I1.fpOk (Nat.le_refl _) (I1.hok.fresh (Nat.le_refl _))
theorem tf {pins:List (Addr×Obj)}{σ:St}{H:Hp}{s:Shared}{R:It→Hp→Prop}{E:Value→Shared→Prop}{lo hi:Int}{t u v:Tok}{tk:Nat} (I:Inv X pins σ H s) (h1:-(2 ^ 62)≤lo) (h2:lo<2 ^ 62) (h3:-(2 ^ 62)≤hi) (h4:hi<2 ^ 62)
  (q:R (Itr lo (hi - lo).toNat) H):wpAny (model X.prog X.w) X.A (pyIter (.ref s.heap.objs.size)) (PIE X pins σ tg R) E { s with heap:=s.heap.push { cls:=.type "range",data:=.fields #[.int lo t,.int hi u,.int 1 v] },toks:=tk }:=by
 refine wpAny_pyIter_range (IsRange.new ..) (small_one h1 h2 h3 h4) ?_
 have I1:Inv X pins σ H { s with heap:=s.heap.push { cls:=.type "range",data:=.fields #[.int lo t,.int hi u,.int 1 v] },toks:=tk }:=I.kept fun b o e=>Heap.get?_push_of_some _ e
 refine⟨(s.heap.push { cls:=.type "range",data:=.fields #[.int lo t,.int hi u,.int 1 v] }).objs.size,[(s.heap.push { cls:=.type "range",data:=.fields #[.int lo t,.int hi u,.int 1 v] }).objs.size],_,_,H,rfl,
  I1.kept (t':=tk) fun b o e=>Heap.get?_push_of_some _ e,pq _ lo (hi - lo).toNat,?_,fun b hb=>?_,q⟩
 ·have e1:lo+((0:Nat):Int) * 1=lo:=by simp
  have e2:(((hi - lo).toNat:Nat):Int) - ((0:Nat):Int)=Builtin.Range.rangeSize lo hi 1:=by rw[rangeSize_one];split <;> omega
  show IsRangeIter _ _ (lo+((0:Nat):Int) * 1) ((((hi - lo).toNat:Nat):Int) - ((0:Nat):Int)) 1
  rw[e1,e2]
  exact Heap.get?_push_size _ rfl
 ·have e:b=(s.heap.push { cls:=.type "range",data:=.fields #[.int lo t,.int hi u,.int 1 v] }).objs.size:=by simpa using hb
  subst e
  exact I1.fpOk (Nat.le_refl _) (I1.hok.fresh (Nat.le_refl _))
def iRng1 (ta:TA):TI:=fun σ H R=>ta σ H fun vs H1=>∃ j:Int,vs=[.int j]∧-(2 ^ 62)≤j∧j<2 ^ 62∧R (Itr 0 j.toNat) H1
theorem bJ {a:Expr}{ta:TA}{p pos:Pos} (hg:Gl X "range") (hm:X.mg "range"=none) (ha:PA X [a] ta) (hs:starEach [a] X.env=[(false,eval a X.env)]:=by rfl):PI X tg (.Call (.Name "range" p) [a] [] pos) (iRng1 ta):=by
 intro pins s σ H R I h
 refine Call_ (iE I hg hm boot_range (PyProof.Rows.callWith_type1 (thn (ha pos pins s σ H _ I h) fun us s1 ⟨vs,H1,I1,r1,q1⟩=>?_) hs rfl))
 obtain⟨j,e,q1,q2,q⟩:=q1
 subst e
 cases r1 with
 | cons r rr=>
  cases rr
  obtain⟨t,rfl⟩:=r
  exact call_range_1 (tf I1 (by omega) (by omega) q1 q2 (by simpa using q))
def tFor (wi:TI)(g:TG)(tb:TS):TS:=fun D σ H=>wi σ H fun J H1=>∃ W:Nat→Nat→St→Hp→Prop,(∃ m,W 0 m σ H1)∧∀ i m σ H,W i m σ H→
 (J.stop i H∧D.nx σ H)∨(J.go i H∧∃ N:St→Hp→Prop,(∀ σ' H',N σ' H'→∃ m',m'<m∧W (i+1) m' σ' H')∧∀ x H',J.yld i H x H'→g x σ H' fun σ2 H2=>tb { D with nx:=N,ct:=N,bk:=D.nx } σ2 H2)
def jF (fp:List Addr)(h:Heap):List (Addr×Obj):=fp.filterMap fun b=>(h.get? b).map fun o=>(b,o)
theorem eB {fp:List Addr}{h:Heap}{b:Addr}{o:Obj} (hb:b∈fp) (e:h.get? b=some o):(b,o)∈jF fp h:=List.mem_filterMap.mpr ⟨b,hb,by rw[e];rfl⟩
theorem se {fp:List Addr}{h:Heap}{p:Addr×Obj} (hp:p∈jF fp h):p.1∈fp∧h.get? p.1=some p.2:=by
 obtain⟨b,hb,e⟩:=List.mem_filterMap.mp hp
 cases q:h.get? b with
 | none=>rw[q]at e;cases e
 | some o=>
  rw[q]at e
  have e':(b,o)=p:=Option.some.inj e
  subst e'
  exact⟨hb,q⟩
theorem Inv.pinned {pins:List (Addr×Obj)}{σ:St}{H:Hp}{s:Shared}{fp:List Addr} (I:Inv X pins σ H s) (hf:∀ b∈fp,jb X pins H b) (ho:∀ b∈fp,∃ o,s.heap.get? b=some o∧∀ v,o.data≠.cell v):Inv X (pins++jF fp s.heap) σ H s:=
 I.pins_of fun p hp=>(List.mem_append.mp hp).elim (fun z=>I.pin p (List.mem_append_right _ z)) fun z=>by
  obtain⟨hb,e⟩:=se z
  obtain⟨f0,f1,f2,_⟩:=hf p.1 hb
  obtain⟨o,e',d⟩:=ho p.1 hb
  rw[e]at e';cases e'
  exact⟨e,f0,f1,f2,d⟩
theorem Inv.unpinned {pins pl:List (Addr×Obj)}{σ:St}{H:Hp}{s:Shared} (I:Inv X (pins++pl) σ H s):Inv X pins σ H s:=I.pins_of fun p hp=>I.pin p (List.mem_append_right _ (List.mem_append_left _ hp))
theorem bt {iter:Expr}{body:List Stmt}{wi:TI}{g:TG}{tb:TS}{pos:Pos} (hp:PassesOwn (model X.prog X.w) X.A X.env X.xe) (hc:X.calm=true) (hi:PI X tg iter wi) (hg:PG X tg g) (hb:PSs X body tb)
  (hs:∀ x,foldedSetIterable iter X.env x=pure x:=by intro _;rfl):PS X (.For tg iter body [] pos) (tFor wi g tb):=by
 intro pins s σ H D I h
 refine wpAny_For (thn (hi pins s σ H _ I h) fun v s1 h1=>thn h1 fun itv s2 h2=>?_) hs
 obtain⟨it,fp,tn,J,H2,e,I2,T,st2,f2,W,⟨m0,w0⟩,turn⟩:=h2
 subst e
 have stat:∀ {H':Hp},(∀ b∈fp,H' b=none)→∀ b∈fp,jb X pins H' b:=fun hn b hb=>⟨hn b hb,(f2 b hb).2⟩
 refine codeAny_forLoop_any (fun n s'=>∃ i σ' H',Inv X pins σ' H' s'∧tn i s'.heap∧(∀ b∈fp,H' b=none)∧W i n σ' H') ?_ m0 ⟨0,σ,H2,I2,st2,fun b hb=>(f2 b hb).1,w0⟩
 rintro n s3 ⟨i,σ3,H3,I3,st3,fr3,w3⟩
 rcases turn i n σ3 H3 w3 with⟨stop,qn⟩|⟨go,N,hN,step⟩
 ·refine wpAny_passesOwn hp (thn (T.done X rfl rfl rfl hc i pins s3 σ3 H3 X.xe I3 (stat fr3) st3 stop) fun r s4 ⟨hr,I4⟩=>?_)
  subst hr
  exact wpAny_execs_nil ⟨σ3,H3,I4,qn⟩
 ·refine wpAny_passesOwn hp (thn (T.item X rfl rfl rfl hc i pins s3 σ3 H3 X.xe I3 (stat fr3) st3 go) fun r s4 ⟨u,hr,h4⟩=>?_)
  subst hr
  refine wpAny_passesOwn hp (thn h4 fun _ s5 ⟨x,H5,I5,r5,y5,st5,fr5⟩=>?_)
  have I5':=I5.pinned (stat fr5) (T.obj _ _ st5)
  refine wpAny_passesOwn hp (thn (hg _ s5 σ3 H5 x u _ I5' r5 (step x H5 y5)) fun _ s6 ⟨σ6,H6,I6,q6⟩=>?_)
  refine wpAny_passesOwn hp (thn (hb _ s6 σ6 H6 _ I6 q6) fun f s7 q7=>?_)
  have again:∀ {σ7:St}{H7:Hp},Inv X (pins++jF fp s5.heap) σ7 H7 s7→N σ7 H7→∃ m,m<n∧∃ i σ' H',Inv X pins σ' H' s7∧tn i s7.heap∧(∀ b∈fp,H' b=none)∧W i m σ' H':=fun {σ7 H7} I7 n7=>by
   obtain⟨m',hm,w7⟩:=hN σ7 H7 n7
   refine⟨m',hm,i+1,σ7,H7,I7.unpinned,T.keep _ _ _ st5 fun b hb o e=>(I7.pin (b,o) (List.mem_append_right _ (List.mem_append_right _ (eB hb e)))).1,fun b hb=>?_,w7⟩
   obtain⟨o,e,d⟩:=T.obj _ _ st5 b hb
   exact (I7.pin (b,o) (List.mem_append_right _ (List.mem_append_right _ (eB hb e)))).2.1
  cases f with
  | next=>obtain⟨σ7,H7,I7,n7⟩:=q7;exact again I7 n7
  | cont=>obtain⟨σ7,H7,I7,n7⟩:=q7;exact again I7 n7
  | brk=>obtain⟨σ7,H7,I7,q7⟩:=q7;exact⟨σ7,H7,I7.unpinned,q7⟩
  | ret v=>obtain⟨x7,σ7,H7,I7,r7,q7⟩:=q7;exact⟨x7,σ7,H7,I7.unpinned,r7,q7⟩
end
theorem bE {K:PySem.W.Frag}{a:Addr}{xs:List V}{g:TG}{tb:TS}{D:fX}{σ:St}{H:Hp} (Pv:Nat→St→Hp→Prop) (h0:Pv 0 σ H) (hl:∀ i σ H,i≤xs.length→Pv i σ H→SqL K H a xs)
  (hs:∀ i x σ H,xs[i]?=some x→Pv i σ H→g x σ H fun σ2 H2=>tb { D with nx:=Pv (i+1),ct:=Pv (i+1),bk:=D.nx } σ2 H2) (hd:∀ σ H,Pv xs.length σ H→D.nx σ H):
  ∃ W:Nat→Nat→St→Hp→Prop,(∃ m,W 0 m σ H)∧∀ i m σ H,W i m σ H→
   ((Itl K a).stop i H∧D.nx σ H)∨((Itl K a).go i H∧∃ N:St→Hp→Prop,(∀ σ' H',N σ' H'→∃ m',m'<m∧W (i+1) m' σ' H')∧∀ x H',(Itl K a).yld i H x H'→g x σ H' fun σ2 H2=>tb { D with nx:=N,ct:=N,bk:=D.nx } σ2 H2):=by
 refine⟨fun i m σ H=>m=xs.length - i∧i≤xs.length∧Pv i σ H,⟨xs.length,by simp,Nat.zero_le _,h0⟩,?_⟩
 rintro i m σ H ⟨rfl,hi,p⟩
 have q:=hl i σ H hi p
 by_cases hlt:i<xs.length
 ·refine .inr ⟨⟨xs,xs[i],q,by simp[hlt]⟩,Pv (i+1),fun σ' H' p'=>⟨xs.length - (i+1),by omega,rfl,hlt,p'⟩,fun x H' y=>?_⟩
  obtain⟨e,y⟩:=y
  subst e
  exact hs i x σ _ (y xs q) p
 ·have e:i=xs.length:=by omega
  subst e
  exact .inl ⟨⟨xs,q,Nat.le_refl _⟩,hd σ H p⟩
theorem iI {lo:Int}{n:Nat}{g:TG}{tb:TS}{D:fX}{σ:St}{H:Hp} (Pv:Nat→St→Hp→Prop) (h0:Pv 0 σ H)
  (hs:∀ i σ H,i<n→Pv i σ H→g (.int (lo+i)) σ H fun σ2 H2=>tb { D with nx:=Pv (i+1),ct:=Pv (i+1),bk:=D.nx } σ2 H2) (hd:∀ σ H,Pv n σ H→D.nx σ H):
  ∃ W:Nat→Nat→St→Hp→Prop,(∃ m,W 0 m σ H)∧∀ i m σ H,W i m σ H→
   ((Itr lo n).stop i H∧D.nx σ H)∨((Itr lo n).go i H∧∃ N:St→Hp→Prop,(∀ σ' H',N σ' H'→∃ m',m'<m∧W (i+1) m' σ' H')∧∀ x H',(Itr lo n).yld i H x H'→g x σ H' fun σ2 H2=>tb { D with nx:=N,ct:=N,bk:=D.nx } σ2 H2):=by
 refine⟨fun i m σ H=>m=n - i∧i≤n∧Pv i σ H,⟨n,by simp,Nat.zero_le _,h0⟩,?_⟩
 rintro i m σ H ⟨rfl,hi,p⟩
 by_cases hlt:i<n
 ·refine .inr ⟨hlt,Pv (i+1),fun σ' H' p'=>⟨n - (i+1),by omega,rfl,hlt,p'⟩,fun x H' y=>?_⟩
  obtain⟨e,y⟩:=y
  subst e y
  exact hs i σ _ hlt p
 ·have e:i=n:=by omega
  subst e
  exact .inl ⟨Nat.le_refl _,hd σ H p⟩
abbrev R2:=V→V→Hp→VK→Prop
def OpR (X:Cx)(f:Value→Value→Sem Value)(r:R2):Prop:=
 ∀ (pins:List (Addr×Obj))(s:Shared)(σ:St)(H:Hp)(x y:V)(v u:Value)(Q:VK),Inv X pins σ H s→RelV x v→RelV y u→r x y H Q→
  wpAny (model X.prog X.w) X.A (f v u) (EP X pins σ Q) X.xe s
def CallR (X:Cx)(f:Value)(r:List V→Hp→VK→Prop):Prop:=
 ∀ (pins:List (Addr×Obj))(s:Shared)(σ:St)(H:Hp)(xs:List V)(us:List Value)(Q:VK),Inv X pins σ H s→Vals xs us→r xs H Q→
  wpAny (model X.prog X.w) X.A (call f us) (EP X pins σ Q) X.xe s
def tOp (r:R2)(ta tb:TE):TE:=fun σ H Q=>ta σ H fun x H1=>tb σ H1 fun y H2=>r x y H2 Q
def rI (C:Int→Int→Prop)(g:Int→Int→V):R2:=fun x y H Q=>∃ i j,x=.int i∧y=.int j∧C i j∧Q (g i j) H
def rI0 (g:Int→Int→V):R2:=fun x y H Q=>∃ i j,x=.int i∧y=.int j∧Q (g i j) H
section
variable {X : Cx}{a b c : Expr}{ta tb tc : TE}{pos : Pos}
theorem binT (ha:PE X a ta)(hb:PE X b tb){pins:List (Addr×Obj)}{s:Shared}{σ:St}{H:Hp}{R:V→V→Hp→Prop} (I:Inv X pins σ H s)
  (h:ta σ H fun x H1=>tb σ H1 fun y H2=>R x y H2) {Q:Value→Shared→Prop}{f:Value→Value→Sem Value}
  (hf:∀ v u s2 x y H2,Inv X pins σ H2 s2→RelV x v→RelV y u→R x y H2→wpAny (model X.prog X.w) X.A (f v u) Q X.xe s2):
  wpAny (model X.prog X.w) X.A (eval a X.env) (fun v s₁=>wpAny (model X.prog X.w) X.A (eval b X.env) (fun u s₂=>wpAny (model X.prog X.w) X.A (f v u) Q X.xe s₂) X.xe s₁) X.xe s:=by
 refine thn (ha pins s σ H _ I h) fun v s1 ⟨x,H1,I1,r1,q1⟩=>?_
 refine thn (hb pins s1 σ H1 _ I1 q1) fun u s2 ⟨y,H2,I2,r2,q2⟩=>?_
 exact hf v u s2 x y H2 I2 r1 r2 q2
theorem ax {op:Operator}{r:R2} (ho:OpR X (binaryOp op) r) (ha:PE X a ta) (hb:PE X b tb):PE X (.BinOp a op b pos) (tOp r ta tb):=by
 intro pins s σ H Q I h
 exact wpAny_BinOp (binT ha hb I h fun v u s2 x y H2 I2 rx ry q=>ho pins s2 σ H2 x y v u Q I2 rx ry q)
theorem opI {f:Value→Value→Sem Value}{C:Int→Int→Prop}{g:Int→Int→Int}
  (rule:∀ (i j:Int)(t u:Tok)(s:Shared)(Q:Value→Shared→Prop)(E:Value→Shared→Prop),C i j→Q (.int (g i j) s.toks) { s with toks:=s.toks+1 }→wpAny (model X.prog X.w) X.A (f (.int i t) (.int j u)) Q E s):
  OpR X f (rI C fun i j=>.int (g i j)):=by
 intro pins s σ H x y v u Q I rx ry h
 obtain⟨i,j,rfl,rfl,hc,q⟩:=h
 obtain⟨t,rfl⟩:=rx
 obtain⟨t',rfl⟩:=ry
 exact rule i j t t' s _ _ hc ⟨.int (g i j),H,I.tok _,⟨_,rfl⟩,q⟩
theorem opI0 {f:Value→Value→Sem Value}{g:Int→Int→Int}
  (rule:∀ (i j:Int)(t u:Tok)(s:Shared)(Q:Value→Shared→Prop)(E:Value→Shared→Prop),Q (.int (g i j) s.toks) { s with toks:=s.toks+1 }→wpAny (model X.prog X.w) X.A (f (.int i t) (.int j u)) Q E s):
  OpR X f (rI0 fun i j=>.int (g i j)):=by
 intro pins s σ H x y v u Q I rx ry h
 obtain⟨i,j,rfl,rfl,q⟩:=h
 obtain⟨t,rfl⟩:=rx
 obtain⟨t',rfl⟩:=ry
 exact rule i j t t' s _ _ ⟨.int (g i j),H,I.tok _,⟨_,rfl⟩,q⟩
theorem v7 {f:Value→Value→Sem Value}{g:Int→Int→Bool}
  (rule:∀ (i j:Int)(t u:Tok)(s:Shared)(Q:Value→Shared→Prop)(E:Value→Shared→Prop),Q (.bool (g i j)) s→wpAny (model X.prog X.w) X.A (f (.int i t) (.int j u)) Q E s):
  OpR X f (rI0 fun i j=>.bl (g i j)):=by
 intro pins s σ H x y v u Q I rx ry h
 obtain⟨i,j,rfl,rfl,q⟩:=h
 obtain⟨t,rfl⟩:=rx
 obtain⟨t',rfl⟩:=ry
 exact rule i j t t' s _ _ ⟨.bl (g i j),H,I,rfl,q⟩
def CDiv (i j:Int):Prop:=0<j∧j<1073741824
def CPow (i j:Int):Prop:=0≤j∧j≤1000000∧i.natAbs<2 ^ 64
def CMul (i j:Int):Prop:=(-(2 ^ 64)<i∧i<2 ^ 64)∨(-(2 ^ 64)<j∧j<2 ^ 64)
theorem CMul.ok {i j:Int}(h:CMul i j):IntMulOk i j:=by
 rcases h with⟨h1,h2⟩|⟨h1,h2⟩
 ·exact .of_left (intBits_le_64 h1 h2)
 ·exact .of_right (intBits_le_64 h1 h2)
theorem bS:OpR X (binaryOp .Add) (rI0 fun i j=>.int (i+j)):=opI0 fun _ _ _ _ _ _ _ q=>add_int q
theorem iC:OpR X (binaryOp .Mult) (rI CMul fun i j=>.int (i * j)):=opI fun _ _ _ _ _ _ _ hc q=>mul_int q hc.ok
theorem bQ:OpR X (binaryOp .FloorDiv) (rI CDiv fun i j=>.int (i / j)):=opI fun i j _ _ _ _ _ hc q=>by
 have h1:(0:Int)<j:=hc.1
 have h2:j<1073741824:=hc.2
 exact floordiv_int (by omega) (by rw[Int.fdiv_eq_ediv_of_nonneg i (by omega)];exact q) (.inl (PyProof.noPylong_small (by omega)))
theorem aS:OpR X (binaryOp .Mod) (rI (fun _ j=>0<j) fun i j=>.int (i % j)):=opI fun i j _ _ _ _ _ hc q=>by
 have h1:(0:Int)<j:=hc
 exact mod_int' (by omega) (by rw[Int.fmod_eq_emod_of_nonneg i (by omega)];exact q)
theorem tL:OpR X (binaryOp .Pow) (rI CPow fun i j=>.int (i ^ j.toNat)):=opI fun _ _ _ _ _ _ _ hc q=>pow_int_small hc.1 hc.2.1 hc.2.2 q
end
def scal:V→V→Bool
 | .non,.non=>true|.non,.int _=>true|.int _,.non=>true|.non,.bl _=>true|.bl _,.non=>true|.non,.str _=>true|.str _,.non=>true
 | .int _,.int _=>true|.bl _,.bl _=>true|.str _,.str _=>true|.byt _,.byt _=>true
 | .int _,.str _=>true|.str _,.int _=>true|.bl _,.str _=>true|.str _,.bl _=>true
 | _,_=>false
def rEq:R2:=fun x y H Q=>scal x y=true∧Q (.bl (decide (x=y))) H
def rNe:R2:=fun x y H Q=>scal x y=true∧Q (.bl (!decide (x=y))) H
theorem rj {i j:Int}:decide (V.int i=V.int j)=(i==j):=by
 rw[Bool.eq_iff_iff]
 simp
theorem um {i j:Bool}:decide (V.bl i=V.bl j)=(i==j):=by
 rw[Bool.eq_iff_iff]
 simp
theorem rh {i j:Str}:decide (V.str i=V.str j)=(i==j):=by
 rw[Bool.eq_iff_iff]
 simp
theorem rn {i j:Array UInt8}:decide (V.byt i=V.byt j)=(i.toList==j.toList):=by
 rw[Bool.eq_iff_iff]
 cases i
 cases j
 simp
section
variable {X : Cx}{a b c : Expr}{ta tb tc : TE}{pos : Pos}
theorem aI {pins:List (Addr×Obj)}{σ:St}{H:Hp}{s:Shared}{Q:VK}{k k':Bool} (I:Inv X pins σ H s) (q:Q (.bl k) H) (e:k=k'):EP X pins σ Q (.bool k') s:=by
 subst e
 exact⟨.bl k,H,I,rfl,q⟩
theorem cJ:OpR X (compareOp .Eq) rEq:=by
 intro pins s σ H x y v u Q I rx ry h
 obtain⟨hs,q⟩:=h
 cases x with
 | non=>
  cases rx
  cases y with
  | non=>cases ry;exact PySem.EqNone.eq_none_none (aI I q (by simp))
  | bl j=>cases ry;exact PySem.EqNone.eq_none_bool (aI I q (by simp))
  | int j=>obtain⟨t',rfl⟩:=ry;exact PySem.EqNone.eq_none_int (aI I q (by simp))
  | str j=>obtain⟨t',rfl⟩:=ry;exact PySem.EqNone.eq_none_str (aI I q (by simp))
  | _=>exact absurd (show false=true from hs) Bool.false_ne_true
 | bl i=>
  cases rx
  cases y with
  | non=>cases ry;exact PySem.EqNone.eq_bool_none (aI I q (by simp))
  | bl j=>cases ry;exact eq_bool (aI I q um)
  | str j=>obtain⟨t',rfl⟩:=ry;exact PySem.EqMixed.eq_bool_str (aI I q (by simp))
  | _=>exact absurd (show false=true from hs) Bool.false_ne_true
 | int i=>
  obtain⟨t,rfl⟩:=rx
  cases y with
  | non=>cases ry;exact PySem.EqNone.eq_int_none (aI I q (by simp))
  | int j=>obtain⟨t',rfl⟩:=ry;exact eq_int (aI I q rj)
  | str j=>obtain⟨t',rfl⟩:=ry;exact PySem.EqMixed.eq_int_str (aI I q (by simp))
  | _=>exact absurd (show false=true from hs) Bool.false_ne_true
 | str i=>
  obtain⟨t,rfl⟩:=rx
  cases y with
  | non=>cases ry;exact PySem.EqNone.eq_str_none (aI I q (by simp))
  | bl j=>cases ry;exact PySem.EqMixed.eq_str_bool (aI I q (by simp))
  | int j=>obtain⟨t',rfl⟩:=ry;exact PySem.EqMixed.eq_str_int (aI I q (by simp))
  | str j=>obtain⟨t',rfl⟩:=ry;exact eq_str (aI I q rh)
  | _=>exact absurd (show false=true from hs) Bool.false_ne_true
 | byt i=>
  obtain⟨t,rfl⟩:=rx
  cases y with
  | byt j=>obtain⟨t',rfl⟩:=ry;exact PySem.W.eq_bytes (aI I q rn)
  | _=>exact absurd (show false=true from hs) Bool.false_ne_true
 | _=>cases y <;> exact absurd (show false=true from hs) Bool.false_ne_true
theorem op_ne:OpR X (compareOp .NotEq) rNe:=by
 intro pins s σ H x y v u Q I rx ry h
 obtain⟨hs,q⟩:=h
 cases x with
 | non=>
  cases rx
  cases y with
  | non=>cases ry;exact PySem.EqNone.ne_none_none (aI I q (by simp))
  | bl j=>cases ry;exact PySem.EqNone.ne_none_bool (aI I q (by simp))
  | int j=>obtain⟨t',rfl⟩:=ry;exact PySem.EqNone.ne_none_int (aI I q (by simp))
  | str j=>obtain⟨t',rfl⟩:=ry;exact PySem.EqNone.ne_none_str (aI I q (by simp))
  | _=>exact absurd (show false=true from hs) Bool.false_ne_true
 | bl i=>
  cases rx
  cases y with
  | non=>cases ry;exact PySem.EqNone.ne_bool_none (aI I q (by simp))
  | bl j=>cases ry;exact ne_bool (aI I q (congrArg not um))
  | str j=>obtain⟨t',rfl⟩:=ry;exact PySem.EqMixed.ne_bool_str (aI I q (by simp))
  | _=>exact absurd (show false=true from hs) Bool.false_ne_true
 | int i=>
  obtain⟨t,rfl⟩:=rx
  cases y with
  | non=>cases ry;exact PySem.EqNone.ne_int_none (aI I q (by simp))
  | int j=>obtain⟨t',rfl⟩:=ry;exact ne_int (aI I q (congrArg not rj))
  | str j=>obtain⟨t',rfl⟩:=ry;exact PySem.EqMixed.ne_int_str (aI I q (by simp))
  | _=>exact absurd (show false=true from hs) Bool.false_ne_true
 | str i=>
  obtain⟨t,rfl⟩:=rx
  cases y with
  | non=>cases ry;exact PySem.EqNone.ne_str_none (aI I q (by simp))
  | bl j=>cases ry;exact PySem.EqMixed.ne_str_bool (aI I q (by simp))
  | int j=>obtain⟨t',rfl⟩:=ry;exact PySem.EqMixed.ne_str_int (aI I q (by simp))
  | str j=>obtain⟨t',rfl⟩:=ry;exact ne_str (aI I q (congrArg not rh))
  | _=>exact absurd (show false=true from hs) Bool.false_ne_true
 | byt i=>
  obtain⟨t,rfl⟩:=rx
  cases y with
  | byt j=>obtain⟨t',rfl⟩:=ry;exact PySem.W.ne_bytes (aI I q (congrArg not rn))
  | _=>exact absurd (show false=true from hs) Bool.false_ne_true
 | _=>cases y <;> exact absurd (show false=true from hs) Bool.false_ne_true
theorem jK:OpR X (compareOp .Lt) (rI0 fun i j=>.bl (decide (i<j))):=v7 fun _ _ _ _ _ _ _ q=>lt_int q
theorem nH:OpR X (compareOp .LtE) (rI0 fun i j=>.bl (decide (i≤j))):=v7 fun _ _ _ _ _ _ _ q=>le_int q
theorem tM:OpR X (compareOp .Gt) (rI0 fun i j=>.bl (decide (j<i))):=v7 fun _ _ _ _ _ _ _ q=>gt_int q
theorem tN:OpR X (compareOp .GtE) (rI0 fun i j=>.bl (decide (j≤i))):=v7 fun _ _ _ _ _ _ _ q=>ge_int q
theorem rW:OpR X (compareOp .In) (fun x y H Q=>∃ i j,x=.str i∧y=.str j∧Q (.bl (!(Builtin.Str.occurrences j i 0 j.length 1).isEmpty)) H):=by
 intro pins s σ H x y v u Q I rx ry h
 obtain⟨i,j,rfl,rfl,q⟩:=h
 obtain⟨t,rfl⟩:=rx
 obtain⟨t',rfl⟩:=ry
 exact in_str (aI I q rfl)
theorem op_isN:OpR X (compareOp .Is) (fun x y H Q=>y=.non∧Q (.bl (decide (x=.non))) H):=by
 intro pins s σ H x y v u Q I rx ry h
 obtain⟨rfl,q⟩:=h
 cases ry
 refine is_none_gen (aI I q ?_)
 cases x <;> first
  | (cases rx;rfl)
  | (obtain⟨t,rfl⟩:=rx;rfl)
theorem qR:OpR X (compareOp .IsNot) (fun x y H Q=>y=.non∧Q (.bl (!decide (x=.non))) H):=by
 intro pins s σ H x y v u Q I rx ry h
 obtain⟨rfl,q⟩:=h
 cases ry
 refine isnot_none_gen (aI I q ?_)
 cases x <;> first
  | (cases rx;rfl)
  | (obtain⟨t,rfl⟩:=rx;rfl)
theorem aE (b:Expr){op:CmpOp}(h:op≠.In:=by decide)(h2:op≠.NotIn:=by decide):behindInMarks op b=false:=by
 have e1:(op==CmpOp.In)=false:=by cases op <;> first|rfl|exact absurd rfl h
 have e2:(op==CmpOp.NotIn)=false:=by cases op <;> first|rfl|exact absurd rfl h2
 cases b <;> simp[behindInMarks,e1,e2]
theorem mt {op:CmpOp}{r:R2} (ho:OpR X (compareOp op) r) (ha:PE X a ta) (hb:PE X b tb) (hm:behindInMarks op b=false):PE X (.Compare a [op] [b] pos) (tOp r ta tb):=by
 intro pins s σ H Q I h
 exact wpAny_Compare1 (binT ha hb I h fun v u s2 x y H2 I2 rx ry q=>ho pins s2 σ H2 x y v u Q I2 rx ry q) hm
def tTest (t:TE):TT:=fun σ H Q=>t σ H fun x H'=>∃ k,x=.bl k∧Q k H'
theorem av {op:CmpOp}{r:R2} (ho:OpR X (compareOp op) r) (ha:PE X a ta) (hb:PE X b tb) (hm:behindInMarks op b=false):PT X (.Compare a [op] [b] pos) (tTest (tOp r ta tb)):=by
 intro pins s σ H Q I h
 refine wpAny_isTrue_Compare1 (thn (ha pins s σ H _ I h) fun v s1 ⟨x,H1,I1,r1,q1⟩=>thn (hb pins s1 σ H1 _ I1 q1) fun u s2 ⟨y,H2,I2,r2,q2⟩=>
  thn (ho pins s2 σ H2 x y v u _ I2 r1 r2 q2) fun c s3 ⟨z,H3,I3,r3,k,e,q3⟩=>?_) hm
 subst e
 cases r3
 exact wpAny_truthy_bool ⟨H3,I3,q3⟩
def tChain (r r':R2)(ta tb tc:TE):TE:=fun σ H Q=>ta σ H fun x H1=>tb σ H1 fun y H2=>r x y H2 fun z H3=>∃ k,z=.bl k∧
 (if k=true then tc σ H3 fun w' H4=>r' y w' H4 Q else Q (.bl false) H3)
theorem nF {op op':CmpOp}{r r':R2} (ho:OpR X (compareOp op) r) (ho':OpR X (compareOp op') r') (ha:PE X a ta) (hb:PE X b tb) (hc:PE X c tc)
  (hm:lastMarks [op,op'] [b,c]=false:=by with_unfolding_all rfl):PE X (.Compare a [op,op'] [b,c] pos) (tChain r r' ta tb tc):=by
 intro pins s σ H Q I h
 refine Compare_chain (thn (ha pins s σ H _ I h) fun v s1 ⟨x,H1,I1,r1,q1⟩=>chain_link (thn (hb pins s1 σ H1 _ I1 q1) fun u s2 ⟨y,H2,I2,r2,q2⟩=>
  thn (ho pins s2 σ H2 x y v u _ I2 r1 r2 q2) fun d s3 ⟨z,H3,I3,r3,k,e,q3⟩=>?_)) hm
 subst e
 cases r3
 refine wpAny_truthy_bool ?_
 cases k with
 | false=>exact ite_ff ⟨.bl false,H3,I3,rfl,q3⟩
 | true=>exact ite_tt (chain_last (thn (hc pins s3 σ H3 _ I3 q3) fun w' s4 ⟨z',H4,I4,r4,q4⟩=>ho' pins s4 σ H4 y z' u w' Q I4 r2 r4 q4))
theorem mG:(sizeLine:Nat)<2 ^ 63:=by rw[sizeLine_eq];decide
theorem pQ:OpR X (binaryOp .Add) (fun x y H Q=>∃ i j,x=.str i∧y=.str j∧i.length+j.length≤sizeLine∧Q (.str (i++j)) H):=by
 intro pins s σ H x y v u Q I rx ry h
 obtain⟨i,j,rfl,rfl,hz,q⟩:=h
 obtain⟨t,rfl⟩:=rx
 obtain⟨t',rfl⟩:=ry
 exact add_str (fun t' tk=>⟨.str (i++j),H,I.tok _,⟨_,rfl⟩,q⟩) hz
theorem dH {x:V}{us:List Value} (r:Vals [x] us):∃ u,us=[u]∧RelV x u:=by
 cases r with
 | cons r1 r2=>cases r2;exact⟨_,rfl,r1⟩
theorem vals2 {x y:V}{us:List Value} (r:Vals [x,y] us):∃ u w',us=[u,w']∧RelV x u∧RelV y w':=by
 cases r with
 | cons r1 r2=>
  cases r2 with
  | cons r3 r4=>cases r4;exact⟨_,_,rfl,r1,r3⟩
end
structure ObjM (h : Heap) (x dx C : Addr) (mA : Str → Option Value) : Prop where
  obj : h.get? x = some (PySem.W.instObj C dx)
  ns : h.Ns1 dx mA
  ne : dx ≠ x
theorem lq {h:Heap}{dx:Addr}{mA:Str→Option Value} (n:h.Ns1 dx mA):∃ od,h.get? dx=some od∧∀ name,PySem.W.lookIn name od=some (mA name):=by
 obtain⟨o,es,ep,ho,hd,hk,_,hm⟩:=n
 refine⟨o,ho,fun name=>?_⟩
 have e:=hm name
 unfold nsFind findBy at e
 rw[← Array.find?_toList]at e
 unfold PySem.W.lookIn
 rw[hd]
 dsimp only
 split
 ·rename_i y q
  rw[q]at e
  exact congrArg some e
 ·rename_i q
  rw[q]at e
  have a:es.toList.any (·.refKey)=false:=by
   rw[List.any_eq_false]
   intro y hy
   obtain⟨z,t,hkey⟩:=hk y (Array.mem_toList_iff.mp hy)
   simp[DictEntry.refKey,hkey]
  have a':¬ es.toList.any (·.refKey)=true:=by rw[a];exact Bool.false_ne_true
  rw[if_neg a']
  exact congrArg some e
theorem ObjM.look {h:Heap}{x dx C:Addr}{mA:Str→Option Value} (I:ObjM h x dx C mA):∃ od,PySem.W.InstAt h x (PySem.W.instObj C dx) C (some od)∧∀ name,PySem.W.lookIn name od=some (mA name):=
 let ⟨od,ho,hl⟩:=lq I.ns
 ⟨od,⟨I.obj,rfl,rfl,ho⟩,hl⟩
section
variable {prog : Program}{w : World}{A : Around}{E : Value → Shared → Prop}{s : Shared}{K : PySem.W.Frag}{x dx C f : Addr}{mA : Str → Option Value}{name : Str}{v : Value}
theorem vo {expr:Bool}{Q:Value→Shared→Prop} (X:K.In s.heap) (I:ObjM s.heap x dx C mA) (hg:PySem.W.plainGet K C name=true) (hh:PySem.W.hasDictIn K C=true)
  (ha:PySem.W.findIn K (.ref C) name=some none) (hv:mA name=some v) (hv':PySem.W.handedIn v=true) (h:Q v { s with toks:=s.toks+1 }):
  wpAny (model prog w) A (getAttr (.ref x) name expr) Q E s:=by
 obtain⟨od,J,hl⟩:=I.look
 exact PySem.W.get_value X J (PySem.W.plainGet_of hg).1 (PySem.W.findObj_own hh ha rfl (by rw[hl,hv])) hv' h
theorem ub {pl:Sem Bool}{Q:Value×List Value→Shared→Prop} (X:K.In s.heap) (I:ObjM s.heap x dx C mA) (hg:PySem.W.plainGet K C name=true)
  (hf:PySem.W.findIn K (.ref C) name=some (some (.ref f))) (ht:PySem.W.isFn K (.ref f)=true) (hv:mA name=none) (h:Q (.ref f,[.ref x]) s):
  wpAny (model prog w) A (getMethod (.ref x) name pl) Q E s:=by
 obtain⟨od,J,hl⟩:=I.look
 exact PySem.W.method_fn X J (PySem.W.plainGet_of hg).1 (PySem.W.plainGet_of hg).2 hf (beq_iff_eq.mp ht) (by show (PySem.W.lookIn name od).map (·.isSome)=some false;rw[hl,hv];rfl) h
theorem uM {ns:List Str}{Q:Unit→Shared→Prop} (X:K.In s.heap) (I:ObjM s.heap x dx C mA)
  (hs:PySem.W.findIn K (.ref C) "__setattr__"=some (some (.builtin "object.__setattr__"))) (hp:PySem.W.plainOver K C=true) (ht:PySem.W.takerIn K C name=some none) (hh:PySem.W.hasDictIn K C=true)
  (hw:PySem.Within mA ns) (hsz:ns.length≤sizeLine)
  (h:∀ h',ObjM h' x dx C (fun y=>if y=name then some v else mA y)→Heap.SameBut dx s.heap h'→Q () { s with heap:=h',toks:=s.toks+2 }):
  wpAny (model prog w) A (setAttr (.ref x) name v) Q E s:=by
 obtain⟨od,J,hl⟩:=I.look
 refine PySem.W.set_plain X J hs (PySem.W.osa_open (s:={ s with toks:=s.toks+1 }) (r:=none) X J hp ht fun b=>?_)
 obtain⟨cd,hc,hd'⟩:=PySem.W.any_some hh
 have hx:s.heap.get? x=some ⟨.ref C,some dx,.plain,#[]⟩:=I.obj
 refine wpAny_bind (wpAny_pure (wpAny_bind (wpAny_bind (wpAny_loadPart hx (wpAny_bind (PySem.W.Looks.here (s:={ s with toks:=s.toks+1 }) (PySem.W.looks_clsIn X hc) ?_))))))
 rw[hd']
 refine wpAny_pure (a:=some dx) (wpAny_bind (wpAny_pure (wpAny_bind ?_)))
 refine wpAny_nsSet1 (s:={ s with toks:=s.toks+1 }) I.ns fun h' hn2 hs2=>?_
 obtain⟨oD,esD,epD,hoD,hdD,hcD⟩:=hn2.count (PySem.Within.cons name v hw)
 refine wpAny_bind (wpAny_lookBehind hoD (by rw[hdD];exact pastItsLine_dict (Nat.le_trans hcD (by rw[List.length_cons];omega))) ?_)
 exact wpAny_pure (h _ ⟨(hs2.2 _ (Ne.symm I.ne)).trans I.obj,hn2,I.ne⟩ hs2)
theorem oh {R:Result→Shared→Prop}{vs:List Value}{kw:List (Str×Value)} (X:K.In s.heap) (hm:PySem.W.makesIn K C=true)
  (hi:PySem.W.findIn K (.ref C) "__init__"=some (some (.ref f))) (hf:PySem.W.typeIn K (.ref f)=some (.type "function"))
  (h:codeAny (model prog w) (A.under (.builtin "type.__call__" ⟨.ref C::vs,kw⟩)) (.call (.ref f) ⟨.ref (s.heap.objs.size+1)::vs,kw⟩) (PySem.W.InitBack (s.heap.objs.size+1) R)
   { s with heap:=(s.heap.push PySem.W.emptyDict).push (PySem.W.instObj C s.heap.objs.size) }):
  codeAny (model prog w) A (.call (.ref C) ⟨vs,kw⟩) R s:=by
 obtain⟨hh,g,d,t,os⟩:=s
 exact PySem.W.make_core (PySem.W.makes_of X hm) (PySem.W.looks_findIn X hi) (fun self=>PySem.W.bind_fn X self hf) (.inl rfl) h
end
def fV (f:Str)(v:V):List (Str×V)→List (Str×V)
 | []=>[(f,v)]
 | (g,x)::r=>if g=f then (g,v)::r else (g,x)::fV f v r
theorem iT (f g:Str)(v:V):∀ fs:List (Str×V),(fV f v fs).lookup g=if g=f then some v else fs.lookup g
 | []=>by
  show List.lookup g [(f,v)]=_
  by_cases h:g=f
  ·have hb:(g==f)=true:=beq_iff_eq.mpr h
   simp only[List.lookup,hb,if_pos h]
  ·have hb:(g==f)=false:=beq_eq_false_iff_ne.mpr h
   simp only[List.lookup,hb,if_neg h]
 | (k,x)::r=>by
  have ih:=iT f g v r
  rw[show fV f v ((k,x)::r)=(if k=f then (k,v)::r else (k,x)::fV f v r) from rfl]
  by_cases hk:k=f
  ·rw[if_pos hk]
   by_cases h:g=k
   ·have hb:(g==k)=true:=beq_iff_eq.mpr h
    simp only[List.lookup,hb,if_pos (h.trans hk)]
   ·have hb:(g==k)=false:=beq_eq_false_iff_ne.mpr h
    simp only[List.lookup,hb,if_neg (fun e:g=f=>h (e.trans hk.symm))]
  ·rw[if_neg hk]
   by_cases h:g=k
   ·have hb:(g==k)=true:=beq_iff_eq.mpr h
    simp only[List.lookup,hb,if_neg (fun e:g=f=>hk (h.symm.trans e))]
   ·have hb:(g==k)=false:=beq_eq_false_iff_ne.mpr h
    simp only[List.lookup,hb]
    exact ih
theorem iF (f:Str)(v:V):∀ fs:List (Str×V),f∈(fV f v fs).map (·.1)∧∀ g,g∈fs.map (·.1)→g∈(fV f v fs).map (·.1)
 | []=>⟨by simp[fV],fun g h=>by simp at h⟩
 | (k,x)::r=>by
  obtain⟨i1,i2⟩:=iF f v r
  rw[show fV f v ((k,x)::r)=(if k=f then (k,v)::r else (k,x)::fV f v r) from rfl]
  by_cases hk:k=f
  ·rw[if_pos hk]
   subst hk
   exact⟨by simp,fun g h=>by simpa using h⟩
  ·rw[if_neg hk]
   refine⟨?_,fun g h=>?_⟩
   ·rw[List.map_cons]
    exact List.mem_cons_of_mem _ i1
   ·rw[List.map_cons]at h ⊢
    rcases List.mem_cons.mp h with e|e
    ·exact List.mem_cons.mpr (.inl e)
    ·exact List.mem_cons_of_mem _ (i2 g e)
theorem iU (f:Str)(v:V):∀ fs:List (Str×V),(fV f v fs).length≤fs.length+1
 | []=>by simp[fV]
 | (k,x)::r=>by
  have ih:=iU f v r
  rw[show fV f v ((k,x)::r)=(if k=f then (k,v)::r else (k,x)::fV f v r) from rfl]
  by_cases hk:k=f
  ·rw[if_pos hk,List.length_cons,List.length_cons];omega
  ·rw[if_neg hk,List.length_cons,List.length_cons];omega
theorem RelO.some_of {v:V}{o:Option Value} (r:RelO (some v) o):∃ u,o=some u∧RelV v u:=by
 cases o with
 | none=>exact (show False from r).elim
 | some u=>exact⟨u,rfl,r⟩
theorem RelO.none_of {o:Option Value}(r:RelO none o):o=none:=by
 cases o with
 | none=>rfl
 | some u=>exact (show False from r).elim
theorem lD {v:V}{u:Value} (r:RelV v u):PySem.W.handedIn u=true:=by
 cases v with
 | non=>cases (show u=Value.none from r);rfl
 | bl b=>cases (show u=Value.bool b from r);rfl
 | int i=>obtain⟨t,e⟩:=(show ∃ t,u=Value.int i t from r);cases e;rfl
 | str x=>obtain⟨t,e⟩:=(show ∃ t,u=Value.str x t from r);cases e;rfl
 | byt b=>obtain⟨t,e⟩:=(show ∃ t,u=Value.bytes b t from r);cases e;rfl
 | flt b=>obtain⟨t,e⟩:=(show ∃ t,u=Value.float b t from r);cases e;rfl
 | ref a=>cases (show u=Value.ref a from r);rfl
 | ty n=>cases (show u=Value.type n from r);rfl
section
variable {P : Program}{w : World}{H H' : Hp}{h h' : Heap}{a C dx : Addr}{fs fs' : List (Str×V)}
theorem jn (hok:HOk P w H h)(e:H a=some (.ins C dx fs)):∃ mA,ObjM h a dx C mA∧(∀ f,RelO (fs.lookup f) (mA f))∧PySem.Within mA (fs.map (·.1))∧fs.length≤1000∧H dx=some (.own a):=by
 obtain⟨d,z,ne,ob,mA,n,r,q⟩:=(show ObjOk P w H h a (.ins C dx fs) from hok a _ e)
 exact⟨mA,⟨ob,n,ne⟩,r,q,z,d⟩
end
structure Cls (K : PySem.W.Frag) (C : Addr) : Prop where
  pg : PySem.W.plainGet K C Str.empty = true
  hd : PySem.W.hasDictIn K C = true
  po : PySem.W.plainOver K C = true
  sa : PySem.W.findIn K (.ref C) "__setattr__" = some (some (.builtin "object.__setattr__"))
theorem Cls.get {K:PySem.W.Frag}{C:Addr} (c:Cls K C) (f:Str):PySem.W.plainGet K C f=true:=c.pg
def NoAttr (K:PySem.W.Frag)(C:Addr)(f:Str):Prop:=PySem.W.findIn K (.ref C) f=some none
theorem NoAttr.taker {K:PySem.W.Frag}{C:Addr}{f:Str} (n:NoAttr K C f):PySem.W.takerIn K C f=some none:=by
 unfold PySem.W.takerIn
 rw[show PySem.W.findIn K (.ref C) f=some none from n]
 rfl
structure pe (K : PySem.W.Frag) (C : Addr) (m : Str) (f : Addr) : Prop where
  at_ : PySem.W.findIn K (.ref C) m = some (some (.ref f))
  fn : PySem.W.isFn K (.ref f) = true
  kp : PySem.W.keepIn K (.ref f) = true
section
variable {X : Cx}{pins : List (Addr×Obj)}{σ : St}{H : Hp}{s : Shared}{a C dx : Addr}{fs : List (Str×V)}{f : Str}{v : V}{A : Around}{E : Value → Shared → Prop}
theorem qj {b:Bool}{Q:Value→Shared→Prop} (I:Inv X pins σ H s) (e:H a=some (.ins C dx fs)) (c:Cls X.K C) (n:NoAttr X.K C f) (l:fs.lookup f=some v)
  (h:∀ u s',Inv X pins σ H s'→RelV v u→Q u s'):wpAny (model X.prog X.w) A (getAttr (.ref a) f b) Q E s:=by
 obtain⟨mA,O,r,_,_,_⟩:=jn I.hok e
 obtain⟨u,hu,ru⟩:=RelO.some_of (v:=v) (o:=mA f) (by rw[← l];exact r f)
 exact vo I.kIn O (c.get f) c.hd n hu (lD ru) (h u _ (I.tok _) ru)
theorem dc {m:Str}{g:Addr}{pl:Sem Bool}{Q:Value×List Value→Shared→Prop} (I:Inv X pins σ H s) (e:H a=some (.ins C dx fs)) (c:Cls X.K C) (k:pe X.K C m g) (l:fs.lookup m=none)
  (h:Q (.ref g,[.ref a]) s):wpAny (model X.prog X.w) A (getMethod (.ref a) m pl) Q E s:=by
 obtain⟨mA,O,r,_,_,_⟩:=jn I.hok e
 have hn:mA m=none:=RelO.none_of (by rw[← l];exact r m)
 exact ub I.kIn O (c.get m) k.at_ k.fn hn h
theorem pB {y:V}{u:Value}{Q:Unit→Shared→Prop} (I:Inv X pins σ H s) (e:H a=some (.ins C dx fs)) (c:Cls X.K C) (n:NoAttr X.K C f) (hl:fs.length<1000) (ry:RelV y u)
  (h:∀ s',Inv X pins σ (upd H a (.ins C dx (fV f y fs))) s'→Q () s'):wpAny (model X.prog X.w) A (setAttr (.ref a) f u) Q E s:=by
 obtain⟨mA,O,r,wi,_,ho⟩:=jn I.hok e
 have hz:(fs.map (·.1)).length≤sizeLine:=by rw[List.length_map,sizeLine_eq];omega
 refine uM I.kIn O c.sa c.po n.taker c.hd wi hz fun h' O' sb=>h _ ?_
 have hd:∃ o,h'.get? dx=some o:=let ⟨o,_,_,e',_⟩:=O'.ns;⟨o,e'⟩
 refine I.write (x:=a) (e:=dx) (by rw[e];exact True.intro) (.inr ho) (fun b q hb z=>(sb.2 b hb).trans z) hd ?_
 refine⟨by rw[aa O.ne];exact ho,?_,O.ne,O'.obj,_,O'.ns,fun g=>?_,fun g hg=>?_⟩
 ·have:=iU f y fs;omega
 ·show RelO ((fV f y fs).lookup g) (if g=f then some u else mA g)
  rw[iT]
  by_cases q:g=f
  ·rw[if_pos q,if_pos q];exact ry
  ·rw[if_neg q,if_neg q];exact r g
 ·by_cases q:g=f
  ·rw[q];exact (iF f y fs).1
  ·refine (iF f y fs).2 g (wi g fun z=>hg ?_)
   show (if g=f then some u else mA g)=none
   rw[if_neg q];exact z
theorem Inv.made (I:Inv X pins σ H s):Inv X pins σ (upd (upd H s.heap.objs.size (.own (s.heap.objs.size+1))) (s.heap.objs.size+1) (.ins C s.heap.objs.size []))
  { s with heap:=(s.heap.push PySem.W.emptyDict).push (PySem.W.instObj C s.heap.objs.size) }:=by
 have e1:(s.heap.push PySem.W.emptyDict).get? s.heap.objs.size=some PySem.W.emptyDict:=Heap.get?_push_size s.heap rfl
 have e2:((s.heap.push PySem.W.emptyDict).push (PySem.W.instObj C s.heap.objs.size)).get? (s.heap.objs.size+1)=some (PySem.W.instObj C s.heap.objs.size):=by
  have:=Heap.get?_push_size (s.heap.push PySem.W.emptyDict) (o:=PySem.W.instObj C s.heap.objs.size) rfl
  rwa [Heap.size_push]at this
 have e3:(s.heap.push PySem.W.emptyDict).Ns s.heap.objs.size (fun _=>none):=⟨PySem.W.emptyDict,#[],_,e1,rfl,(fun e he=>absurd he (by simp)),fun _=>rfl⟩
 have I1:=I.laid (a:=s.heap.objs.size) (o:=.own (s.heap.objs.size+1)) (h':=s.heap.push PySem.W.emptyDict) (t':=s.toks) (fun b u q=>Heap.get?_push_of_some _ q) (Nat.le_refl _) ⟨_,e1⟩
 refine I1.laid (a:=s.heap.objs.size+1) (o:=.ins C s.heap.objs.size []) (t':=s.toks) (fun b u q=>Heap.get?_push_of_some _ q) (Nat.le_of_eq (Heap.size_push _ _)) ?_
 have ne:s.heap.objs.size≠s.heap.objs.size+1:=Nat.ne_of_lt (Nat.lt_succ_self _)
 refine⟨by rw[aa ne,a9],Nat.zero_le _,ne,e2,fun _=>none,(Heap.Ns1.of_empty e3).at fun o q=>Heap.get?_push_of_some _ q,fun _=>True.intro,fun y hy=>absurd rfl hy⟩
theorem rA {prog:Program}{w:World}{env:Env}{e:Expr}{f:Str}{pos:Pos}{s:Shared}{Q:Value→Shared→Prop} (hb:attributeBase e f env (eval e env)=eval e env)
  (h:wpAny (model prog w) A (eval e env) (fun o s₁=>wpAny (model prog w) A (getAttr o f true) Q E s₁) E s):wpAny (model prog w) A (eval (.Attribute e f pos) env) Q E s:=
 Attribute_any_ h (by rw[arm_eval_Attribute,hb])
end
def tFld (K:PySem.W.Frag)(ta:TE)(f:Str):TE:=fun σ H Q=>ta σ H fun x H1=>∃ a C dx fs v,x=.ref a∧H1 a=some (.ins C dx fs)∧Cls K C∧NoAttr K C f∧fs.lookup f=some v∧Q v H1
def sFld (K:PySem.W.Frag)(ta tv:TE)(f:Str):TS:=fun D σ H=>tv σ H fun y H1=>ta σ H1 fun x H2=>∃ a C dx fs,x=.ref a∧H2 a=some (.ins C dx fs)∧Cls K C∧NoAttr K C f∧fs.length<1000∧
 D.nx σ (upd H2 a (.ins C dx (fV f y fs)))
section
variable {X : Cx}{o e value : Expr}{f : Str}{pos pos' tpos : Pos}{ta tv : TE}
theorem pe_fld (he:PE X e ta)(hb:attributeBase e f X.env (eval e X.env)=eval e X.env):PE X (.Attribute e f pos) (tFld X.K ta f):=by
 intro pins s σ H Q I h
 refine rA hb (thn (he pins s σ H _ I h) fun u s1 ⟨x,H1,I1,rx,a,C,dx,fs,v,ex,ea,c,n,l,q⟩=>?_)
 subst ex
 obtain rfl:u=Value.ref a:=rx
 exact qj I1 ea c n l fun u' s2 I2 ru=>⟨v,H1,I2,ru,q⟩
theorem iu (ha:PE X o ta)(hv:PE X value tv)(hs:swapsWith value (some (.Attribute o f pos')) pos.line X.env=pure false):PS X (.Assign [.Attribute o f pos'] value pos) (sFld X.K ta tv f):=by
 intro pins s σ H D I h
 refine plainObj_wpAny_Assign_Attribute (thn (hv pins s σ H _ I h) fun u s1 ⟨y,H1,I1,ry,q⟩=>thn (ha pins s1 σ H1 _ I1 q) fun ov s2 ⟨x,H2,I2,rx,a,C,dx,fs,ex,ea,c,n,l,q2⟩=>?_) hs
 subst ex
 obtain rfl:ov=Value.ref a:=rx
 exact pB I2 ea c n l ry fun s3 I3=>⟨σ,_,I3,q2⟩
end
section
variable {X : Cx}{pins : List (Addr×Obj)}{σ : St}{H : Hp}{s : Shared}{A : Around}{E : Value → Shared → Prop}{Q : Value → Shared → Prop}{c : Value}{b : Bool}
inductive i7 (K : PySem.W.Frag) (H : Hp) : V → Value → Prop where
  | non : i7 K H .non (.type "NoneType")
  | bl (x : Bool) : i7 K H (.bl x) (.type "bool")
  | int (i : Int) : i7 K H (.int i) (.type "int")
  | str (x : Str) : i7 K H (.str x) (.type "str")
  | flt (x : UInt64) : i7 K H (.flt x) (.type "float")
  | lst {a : Addr} {xs : List V} (e : H a = some (.lst xs)) : i7 K H (.ref a) (.type "list")
  | frz {a : Addr} {o : Obj} {xs : List V} (e : H a = some (.frz o (.lst xs))) : i7 K H (.ref a) (.type "list")
  | tup {a : Addr} {xs : List V} (e : H a = some (.tup xs)) : i7 K H (.ref a) (.type "tuple")
  | dK {a : Addr} {kvs : List (Key × V)} (e : H a = some (.dK kvs)) : i7 K H (.ref a) (.type "dict")
  | dT {a : Addr} {kvs : List (List Key × V)} (e : H a = some (.dT kvs)) : i7 K H (.ref a) (.type "dict")
  | ins {a C dx : Addr} {fs : List (Str × V)} (e : H a = some (.ins C dx fs)) (cl : Cls K C) (ha : PySem.W.findIn K (.ref C) "__class__" = some (some (.builtin "object.__class__")))
      (hn : PySem.W.specialIn K (.builtin "object.__class__") "__get__" = some (some (.builtin "getset_descriptor.__get__"))) (htk : PySem.W.takesIn K (.builtin "object.__class__") = some true)
      (hm : PySem.W.mroIn K C (.type "object") = some true) : i7 K H (.ref a) (.ref C)
theorem sv {x:V}{u t:Value} (I:Inv X pins σ H s) (rx:RelV x u) (ty:i7 X.K H x t) (e:PySem.W.kitOne X.K t c=some b) (h:∀ tk,Q (.bool b) { s with toks:=tk }):
  wpAny (model X.prog X.w) A (call (.builtin "isinstance") [u,c]) Q E s:=by
 cases ty with
 | non=>cases (show u=Value.none from rx);exact PySem.W.kia_one PySem.W.kitx_none I.kIn True.intro e (fun z=>nomatch z) h
 | bl y=>cases (show u=Value.bool y from rx);exact PySem.W.kia_one PySem.W.kitx_bool I.kIn True.intro e (fun z=>nomatch z) h
 | int i=>obtain⟨t,q⟩:=(show ∃ t,u=Value.int i t from rx);cases q;exact PySem.W.kia_one PySem.W.kitx_int I.kIn True.intro e (fun z=>nomatch z) h
 | str y=>obtain⟨t,q⟩:=(show ∃ t,u=Value.str y t from rx);cases q;exact PySem.W.kia_one PySem.W.kitx_str I.kIn True.intro e (fun z=>nomatch z) h
 | flt y=>obtain⟨t,q⟩:=(show ∃ t,u=Value.float y t from rx);cases q;exact PySem.W.kia_one PySem.W.kitx_float I.kIn True.intro e (fun z=>nomatch z) h
 | @lst a xs ea=>
  cases (show u=Value.ref a from rx)
  obtain⟨_,_,n,_,h1⟩:=(show ObjOk X.prog X.w H s.heap a (.lst xs) from I.hok a _ ea)
  exact PySem.W.kia_one PySem.W.kitx_list I.kIn ⟨_,h1,rfl⟩ e (fun z=>nomatch z) h
 | @frz a ob xs ea=>
  cases (show u=Value.ref a from rx)
  obtain⟨_,_,_,n,_,h1⟩:=(show ObjOk X.prog X.w H s.heap a (.frz ob (.lst xs)) from I.hok a _ ea)
  exact PySem.W.kia_one PySem.W.kitx_list I.kIn ⟨_,h1,rfl⟩ e (fun z=>nomatch z) h
 | @tup a xs ea=>
  cases (show u=Value.ref a from rx)
  obtain⟨_,_,_,p⟩:=(show ObjOk X.prog X.w H s.heap a (.tup xs) from I.hok a _ ea)
  obtain⟨o,h1,h2,_⟩:=p
  exact PySem.W.kia_one PySem.W.kitx_tuple I.kIn ⟨o,h1,h2⟩ e (fun z=>nomatch z) h
 | @dK a kvs ea=>
  cases (show u=Value.ref a from rx)
  obtain⟨_,_,vs,_,p⟩:=(show ObjOk X.prog X.w H s.heap a (.dK kvs) from I.hok a _ ea)
  obtain⟨o,es,ep,h1,h2,_⟩:=p
  exact PySem.W.kia_one PySem.W.kitx_dict I.kIn ⟨o,h1,h2.1⟩ e (fun z=>nomatch z) h
 | @dT a kvs ea=>
  cases (show u=Value.ref a from rx)
  obtain⟨_,_,xs,_,o,es,ep,h1,h2,_⟩:=(show ObjOk X.prog X.w H s.heap a (.dT kvs) from I.hok a _ ea)
  exact PySem.W.kia_one PySem.W.kitx_dict I.kIn ⟨o,h1,h2.1⟩ e (fun z=>nomatch z) h
 | @ins a C dx fs ea cl ha hn htk hm=>
  cases (show u=Value.ref a from rx)
  obtain⟨mA,O,_⟩:=jn I.hok ea
  obtain⟨od,J,_⟩:=O.look
  exact PySem.W.kia_one (PySem.W.kitx_own (cl.get _) cl.hd ha hn htk hm) I.kIn J e (fun z=>nomatch z) h
end
structure Room (k : Nat) (A : Around) : Prop where
  hd : A.handled = none
  dp : A.depth + 3 * k + 5 < recursionLimit
  un : A.units + 16 * k + 200 < cLine
theorem Room.mono {j k:Nat}{A:Around} (r:Room k A) (h:j≤k):Room j A:=⟨r.hd,by have:=r.dp;omega,by have:=r.un;omega⟩
theorem Room.deeper {k:Nat}{A:Around} (r:Room (k+1) A) (env:Env):Room k (A.deeper env):=
 ⟨r.hd,by have:=r.dp;show A.depth+1+3 * k+5<_;omega,by have:=r.un;show A.units+3+16 * k+200<_;omega⟩
theorem pY {A:Around}{C:Addr}{us:List Value}{kw:List (Str×Value)}:(A.under (.builtin "type.__call__" ⟨.ref C::us,kw⟩)).depth=A.depth+1:=by
 first|rfl|simp[Around.under,Code.weight,Code.isCreation,Code.isGuard,Code.isCaller,Code.frames,Code.isFrame,guardIds]
theorem pX {A:Around}{C:Addr}{us:List Value}{kw:List (Str×Value)}:(A.under (.builtin "type.__call__" ⟨.ref C::us,kw⟩)).units=A.units+1:=by
 first|rfl|simp[Around.under,Code.cUnits,Code.frames,Code.isFrame]
theorem Room.make {k:Nat}{A:Around} (r:Room (k+1) A) (C:Addr) (us:List Value) (kw:List (Str×Value)):Room k (A.under (.builtin "type.__call__" ⟨.ref C::us,kw⟩)):=
 ⟨r.hd,by have:=r.dp;rw[pY];omega,by have:=r.un;rw[pX];omega⟩
theorem Room.depth {k:Nat}{A:Around} (r:Room k A):A.depth<recursionLimit:=by have:=r.dp;omega
theorem Room.units {k:Nat}{A:Around} (r:Room k A):A.units+64<cLine:=by have:=r.un;omega
def kx:TA:=fun _ H Q=>Q [] H
def eN (ta:TE)(tr:TA):TA:=fun σ H Q=>ta σ H fun x H1=>tr σ H1 fun xs H2=>Q (x::xs) H2
section
variable {X : Cx}{e : Expr}{es : List Expr}{te : TE}{t : TA}{pos : Pos}
theorem ae:PA X [] kx:=fun _ _ _ _ H Q I h=>Calls.spliced_nil ⟨[],H,I,.nil,h⟩
theorem a8 (ha:PE X e te)(hr:PA X es t)(hs:starEach (e::es) X.env=(false,eval e X.env)::starEach es X.env:=by rfl):PA X (e::es) (eN te t):=by
 intro pos pins s σ H Q I h
 rw[hs]
 show wpAny _ _ (spliced ((false,eval e X.env)::backTo pos (starEach es X.env))) _ _ s
 refine Calls.spliced_cons (thn (ha pins s σ H _ I h) fun u s1 ⟨x,H1,I1,r1,q1⟩=>?_)
 exact thn (hr pos pins s1 σ H1 _ I1 q1) fun us s2 ⟨xs,H2,I2,r2,q2⟩=>⟨x::xs,H2,I2,.cons r1 r2,q2⟩
def tLst (t:TA):TE:=fun σ H Q=>t σ H fun xs H1=>xs.length≤sizeLine∧∀ p,H1 p=none→Q (.ref p) (upd H1 p (.lst xs))
theorem pe_lst (h:PA X es t):PE X (.List es pos) (tLst t):=by
 intro pins s σ H Q I hq
 refine wpAny_List_spliced (thn (h pos pins s σ H _ I hq) fun us s1 ⟨xs,H1,I1,r,z,q⟩=>⟨by rw[← r.length];exact z,?_⟩)
 have hf:H1 s1.heap.objs.size=none:=I1.hok.fresh (Nat.le_refl _)
 refine⟨.ref s1.heap.objs.size,upd H1 s1.heap.objs.size (.lst xs),I1.laid (t':=s1.toks) (fun b u e=>Heap.get?_push_of_some _ e) (Nat.le_refl _) ?_,rfl,q _ hf⟩
 exact⟨z,us,0,r,Heap.get?_push_size _ rfl⟩
end
abbrev Sp:=List V→Hp→VK→XK→Prop
abbrev CXT:=List Env→Hp→Shared→XK→Value→Shared→Prop
structure Env0 (P : Program) (w : World) (K : PySem.W.Frag) (mg : Str → Option Value) (base : Heap) (A : Around) (outer : List Env) (s : Shared) (H : Hp) : Prop where
  frames : A.frames = some outer
  mod : Mod K mg base
  bs : ∀ b o, base.get? b = some o → s.heap.get? b = some o ∧ H b = none
  bsz : base.objs.size ≤ s.heap.objs.size
  funs : s.heap.FunFrames base outer
  frf : ∀ b ∈ frs outer, H b = none
  hok : HOk P w H s.heap
  bare : AllBare s.gens
def CE (outer:List Env)(P:Program)(w:World)(H:Hp)(s:Shared)(Q:VK)(u:Value)(s':Shared):Prop:=
 ∃ v H',s'.os=s.os∧AllBare s'.gens∧Un (frs outer) [] H H' s.heap s'.heap∧HOk P w H' s'.heap∧RelV v u∧Q v H'
def CR (CX:CXT)(outer:List Env)(P:Program)(w:World)(H:Hp)(s:Shared)(Q:VK)(E:XK)(r:Result)(s':Shared):Prop:=
 match r with
 | .ok (.ret u)=>CE outer P w H s Q u s'
 | .ok _=>False
 | .error e=>CX outer H s E e s'
structure FnOk (P : Program) (w : World) (K : PySem.W.Frag) (mg : Str → Option Value) (base : Heap) (CX : CXT) (k : Nat) (f : Addr) (fd : FuncData) (ps : List Str) (sp : Sp) : Prop where
  len : ∀ vs H Q E, sp vs H Q E → vs.length = ps.length
  run : ∀ (A : Around) (outer : List Env) (s : Shared) (H : Hp) (args : Args) (us : List Value) (vs : List V) (Q : VK) (E : XK), Room k A → Env0 P w K mg base A outer s H → BindsTo s fd args (ps.zip us) → Vals vs us → sp vs H Q E →
    codeAny (model P w) A (.call (.ref f) args) (CR CX outer P w H s Q E) s
theorem FnOk.imp {P:Program}{w:World}{K:PySem.W.Frag}{mg:Str→Option Value}{base:Heap}{CX:CXT}{k:Nat}{f:Addr}{fd:FuncData}{ps:List Str}{sp sp':Sp} (F:FnOk P w K mg base CX k f fd ps sp)
  (h:∀ vs H Q E,sp' vs H Q E→sp vs H Q E):FnOk P w K mg base CX k f fd ps sp':=
 ⟨fun vs H Q E q=>F.len vs H Q E (h _ _ _ _ q),fun A outer s H args us vs Q E hr he hb hv hs=>F.run A outer s H args us vs Q E hr he hb hv (h _ _ _ _ hs)⟩
theorem Env0.make {P:Program}{w:World}{K:PySem.W.Frag}{mg:Str→Option Value}{base:Heap}{A:Around}{outer:List Env}{s:Shared}{H:Hp} (e:Env0 P w K mg base A outer s H) (C:Addr) (us:List Value) (kw:List (Str×Value)):
  Env0 P w K mg base (A.under (.builtin "type.__call__" ⟨.ref C::us,kw⟩)) outer s H:=⟨by first|exact e.frames|(simpa [Around.under,Code.envs,Code.isFrame,pushEnvs] using e.frames),e.mod,e.bs,e.bsz,e.funs,e.frf,e.hok,e.bare⟩
section
variable {X : Cx}{pins : List (Addr×Obj)}{σ : St}{H : Hp}{s s' : Shared}
theorem Inv.env0 (I:Inv X pins σ H s):Env0 X.prog X.w X.K X.mg X.base X.A X.stack s H:=
 ⟨I.ok.frames,I.ok.mod,I.bs,Nat.le_trans I.ok.bsz I.sz,I.stack,I.stkFree,I.hok,I.bare⟩
theorem Inv.after {Q:VK}{u:Value} (I:Inv X pins σ H s) (h:CE X.stack X.prog X.w H s Q u s'):EP X pins σ Q u s':=by
 obtain⟨v,H',os,bare,un,hok,r,q⟩:=h
 obtain⟨hh,g,d,t,os'⟩:=s'
 obtain rfl:os'=s.os:=os
 exact⟨v,H',I.call (h':=hh) (g':=g) (d':=d) (t':=t) (ch:=[]) un hok bare (fun b z=>absurd z (by simp)),r,q⟩
end
def qC (sp:Sp)(dvs:List V)(E:XK)(t:TA):TE:=fun σ H Q=>t σ H fun vs H1=>sp (vs++dvs) H1 Q E
def mX (C:Addr)(m:Str)(sp:Sp)(dvs:List V)(E:XK)(ta:TE)(t:TA):TE:=fun σ H Q=>ta σ H fun x H1=>∃ a dx fs,x=.ref a∧H1 a=some (.ins C dx fs)∧fs.lookup m=none∧
 t σ H1 fun vs H2=>sp (x::(vs++dvs)) H2 Q E
def qB (C:Addr)(sp:Sp)(dvs:List V)(E:XK)(t:TA):TE:=fun σ H Q=>t σ H fun vs H1=>∀ x dx,H1 x=none→H1 dx=none→dx≠x→
 sp (.ref x::(vs++dvs)) (upd (upd H1 dx (.own x)) x (.ins C dx [])) (fun v H2=>v=.non∧Q (.ref x) H2) E
def Binds (K:PySem.W.Frag)(fd:FuncData)(ps:List Str)(ds:List Value):Prop:=
 ∀ (s:Shared)(us:List Value),K.In s.heap→(us++ds).length=ps.length→BindsTo s fd ⟨us,[]⟩ (ps.zip (us++ds))
theorem Binds.all {K:PySem.W.Frag}{fd:FuncData}{ps:List Str} (h:∀ us:List Value,us.length=ps.length→bindArgs fd ⟨us,[]⟩=pure (ps.zip us)):Binds K fd ps []:=fun s us _ hl=>by
 rw[List.append_nil]at hl ⊢
 exact .of_eq (h us hl)
def fC (CX:CXT)(X:Cx)(E:XK):Prop:=∀ (pins:List (Addr×Obj))(σ:St)(H:Hp)(s:Shared)(e:Value)(s':Shared),Inv X pins σ H s→CX X.stack H s E e s'→X.xe e s'
section
variable {X : Cx}{CX : CXT}{k : Nat}{f C : Addr}{fd : FuncData}{ps : List Str}{sp : Sp}{dvs : List V}{ds : List Value}{E : XK}{x m : Str}{p pos apos : Pos}{e o : Expr}{es : List Expr}{ta : TE}{t : TA}
theorem ma {pins:List (Addr×Obj)}{σ:St}{H:Hp}{s:Shared}{Q:VK}{us:List Value}{vs:List V} (F:FnOk X.prog X.w X.K X.mg X.base CX k f fd ps sp) (hr:Room k X.A) (hb:Binds X.K fd ps ds) (hd:Vals dvs ds) (hx:fC CX X E)
  (I:Inv X pins σ H s) (r:Vals vs us) (h:sp (vs++dvs) H Q E):wpAny (model X.prog X.w) X.A (call (.ref f) us) (EP X pins σ Q) X.xe s:=by
 have r2:Vals (vs++dvs) (us++ds):=r.append hd
 have hl:(us++ds).length=ps.length:=by rw[← r2.length];exact F.len _ _ _ _ h
 refine wpAny_call (codeAny_mono (F.run X.A X.stack s H ⟨us,[]⟩ (us++ds) (vs++dvs) Q E hr I.env0 (hb s us I.kIn hl) r2 h) fun r s' hq=>?_)
 cases r with
 | error e=>exact hx pins σ H s e s' I hq
 | ok fl=>
  cases fl with
  | ret u=>exact I.after hq
  | next=>exact False.elim hq
  | brk=>exact False.elim hq
  | cont=>exact False.elim hq
theorem v3 (F:FnOk X.prog X.w X.K X.mg X.base CX k f fd ps sp)(hr:Room k X.A)(hg:Gl X x)(hm:X.mg x=some (.ref f))(hk:PySem.W.keepIn X.K (.ref f)=true)(hb:Binds X.K fd ps ds)(hd:Vals dvs ds)(hx:fC CX X E)
  (ha:PA X (e::es) t) (hdb:(x==("__debug__":Str))=false:=by decide) (he:starEach (e::es) X.env=(false,eval e X.env)::starEach es X.env:=by rfl) (hpl:(backTo pos (starEach es X.env)).any (·.1)=false:=by rfl):
  PE X (.Call (.Name x p) (e::es) [] pos) (qC sp dvs E t):=by
 intro pins s σ H Q I h
 refine wpAny_Call_Name_kw (cx I hg hm ?_ hdb)
 refine PySem.W.callWith_K (h₀:=X.base) I.ok.mod.kin hk (thn (ha pos pins s σ H _ I h) fun us s1 ⟨vs,H1,I1,r,q⟩=>⟨I1.kIn,?_⟩) he hpl
 exact ma F hr hb hd hx I1 r q
theorem uY {pl:Sem Bool}(he:PE X o ta)(c:Cls X.K C)(hm:pe X.K C m f)(F:FnOk X.prog X.w X.K X.mg X.base CX k f fd ps sp)(hr:Room k X.A)(hb:Binds X.K fd ps ds)(hd:Vals dvs ds)(hx:fC CX X E)(ha:PA X (e::es) t)
  (hst:starEach (e::es) X.env=(false,eval e X.env)::starEach es X.env:=by rfl) (hpl:(backTo pos (starEach es X.env)).any (·.1)=false:=by rfl)
  (ht:eval (.Call (.Attribute o m apos) (e::es) [] pos) X.env=(do
   let ov ← eval o X.env
   standAt apos.atName
   let (f,first) ← holding [ov] (getMethod ov m pl)
   callWith pos f first (backTo pos (starEach (e::es) X.env)) (backToKw pos (keywordEach [] X.env))):=by rfl):
  PE X (.Call (.Attribute o m apos) (e::es) [] pos) (mX C m sp dvs E ta t):=by
 intro pins s σ H Q I h
 refine PySem.W.methodCall_KW (pl:=pl) (thn (he pins s σ H _ I h) fun u s1 ⟨x,H1,I1,rx,a,dx,fs,ex,ea,l,q⟩=>?_) ht
 subst ex
 obtain rfl:u=Value.ref a:=rx
 refine dc I1 ea c hm l ?_
 refine PySem.W.callWith_K (first:=[.ref a]) (h₀:=X.base) I.ok.mod.kin hm.kp (thn (ha pos pins s1 σ H1 _ I1 q) fun us s2 ⟨vs,H2,I2,r,q2⟩=>⟨I2.kIn,?_⟩) hst hpl
 exact ma (us:=.ref a::us) (vs:=.ref a::vs) F hr hb hd hx I2 (.cons rfl r) q2
theorem tF {pl:Sem Bool}(he:PE X o ta)(c:Cls X.K C)(hm:pe X.K C m f)(F:FnOk X.prog X.w X.K X.mg X.base CX k f fd ps sp)(hr:Room k X.A)(hb:Binds X.K fd ps ds)(hd:Vals dvs ds)(hx:fC CX X E)
  (ht:eval (.Call (.Attribute o m apos) [] [] pos) X.env=(do
   let ov ← eval o X.env
   standAt apos.atName
   let (f,first) ← holding [ov] (getMethod ov m pl)
   callWith pos f first (backTo pos (starEach [] X.env)) (backToKw pos (keywordEach [] X.env))):=by rfl):
  PE X (.Call (.Attribute o m apos) [] [] pos) (mX C m sp dvs E ta kx):=by
 intro pins s σ H Q I h
 refine PySem.W.methodCall_KW (pl:=pl) (thn (he pins s σ H _ I h) fun u s1 ⟨x,H1,I1,rx,a,dx,fs,ex,ea,l,q⟩=>?_) ht
 subst ex
 obtain rfl:u=Value.ref a:=rx
 refine dc I1 ea c hm l ?_
 exact PySem.W.callWith_K0 (first:=[.ref a]) I1.kIn hm.kp (ma (us:=[.ref a]) (vs:=[.ref a]) F hr hb hd hx I1 (.cons rfl .nil) q)
structure Mk (K : PySem.W.Frag) (C f : Addr) : Prop where
  makes : PySem.W.makesIn K C = true
  init : PySem.W.findIn K (.ref C) "__init__" = some (some (.ref f))
  fn : PySem.W.isFn K (.ref f) = true
  kp : PySem.W.keepIn K (.ref C) = true
theorem nz {pins:List (Addr×Obj)}{σ:St}{H:Hp}{s:Shared}{Q:VK}{us:List Value}{vs:List V} (M:Mk X.K C f) (F:FnOk X.prog X.w X.K X.mg X.base CX k f fd ps sp) (hr:Room (k+1) X.A) (hb:Binds X.K fd ps ds) (hd:Vals dvs ds)
  (hx:fC CX X E) (I:Inv X pins σ H s) (r:Vals vs us)
  (h:∀ x dx,H x=none→H dx=none→dx≠x→sp (.ref x::(vs++dvs)) (upd (upd H dx (.own x)) x (.ins C dx [])) (fun v H2=>v=.non∧Q (.ref x) H2) E):
  wpAny (model X.prog X.w) X.A (call (.ref C) us) (EP X pins σ Q) X.xe s:=by
 have hq:=h (s.heap.objs.size+1) s.heap.objs.size (I.hok.fresh (Nat.le_succ _)) (I.hok.fresh (Nat.le_refl _)) (Nat.ne_of_lt (Nat.lt_succ_self _))
 have I2:=Inv.made (C:=C) I
 have r2:Vals (V.ref (s.heap.objs.size+1)::(vs++dvs)) (Value.ref (s.heap.objs.size+1)::(us++ds)):=.cons rfl (r.append hd)
 have hl:(Value.ref (s.heap.objs.size+1)::us++ds).length=ps.length:=by
  have e:=r2.length
  rw[F.len _ _ _ _ hq]at e
  exact e.symm
 refine wpAny_call (oh (f:=f) I.kIn M.makes M.init (beq_iff_eq.mp M.fn) (codeAny_mono (F.run _ X.stack _ _ ⟨Value.ref (s.heap.objs.size+1)::us,[]⟩ (Value.ref (s.heap.objs.size+1)::(us++ds)) _ _ E (hr.make C us [])
  (I2.env0.make C us []) (hb _ (Value.ref (s.heap.objs.size+1)::us) I2.kIn hl) r2 hq) fun r s' hq'=>?_))
 cases r with
 | error e=>exact hx pins σ _ _ e s' I2 hq'
 | ok fl=>
  cases fl with
  | ret u=>
   obtain⟨v,H',I3,rv,ev,q3⟩:=I2.after hq'
   subst ev
   exact⟨rv,⟨V.ref (s.heap.objs.size+1),H',I3,rfl,q3⟩⟩
  | next=>exact False.elim hq'
  | brk=>exact False.elim hq'
  | cont=>exact False.elim hq'
theorem uZ (M:Mk X.K C f)(F:FnOk X.prog X.w X.K X.mg X.base CX k f fd ps sp)(hr:Room (k+1) X.A)(hg:Gl X x)(hm:X.mg x=some (.ref C))(hb:Binds X.K fd ps ds)(hd:Vals dvs ds)(hx:fC CX X E)
  (ha:PA X (e::es) t) (hdb:(x==("__debug__":Str))=false:=by decide) (he:starEach (e::es) X.env=(false,eval e X.env)::starEach es X.env:=by rfl) (hpl:(backTo pos (starEach es X.env)).any (·.1)=false:=by rfl):
  PE X (.Call (.Name x p) (e::es) [] pos) (qB C sp dvs E t):=by
 intro pins s σ H Q I h
 refine wpAny_Call_Name_kw (cx I hg hm ?_ hdb)
 refine PySem.W.callWith_K (h₀:=X.base) I.ok.mod.kin M.kp (thn (ha pos pins s σ H _ I h) fun us s1 ⟨vs,H1,I1,r,q⟩=>⟨I1.kIn,?_⟩) he hpl
 exact nz M F hr hb hd hx I1 r q
theorem tG (M:Mk X.K C f)(F:FnOk X.prog X.w X.K X.mg X.base CX k f fd ps sp)(hr:Room (k+1) X.A)(hg:Gl X x)(hm:X.mg x=some (.ref C))(hb:Binds X.K fd ps ds)(hd:Vals dvs ds)(hx:fC CX X E)
  (hdb:(x==("__debug__":Str))=false:=by decide):PE X (.Call (.Name x p) [] [] pos) (qB C sp dvs E kx):=by
 intro pins s σ H Q I h
 refine wpAny_Call_Name_kw (cx I hg hm ?_ hdb)
 exact PySem.W.callWith_K0 I.kIn M.kp (nz (us:=[]) M F hr hb hd hx I .nil h)
end
section
variable {X : Cx}{CX : CXT}{k : Nat}{f C : Addr}{fd : FuncData}{ps ks : List Str}{sp : Sp}{E : XK}{x m : Str}{p pos apos kpos : Pos}{e o : Expr}{es : List Expr}{kws : List Keyword}{te ta : TE}{t tk : TA}{nm : Option Str}
variable {g : List Value → List Value → List Value}{gV : List V → List V → List V}
end
structure am (N P : List Str) (sc : Scope) : Prop where
  kind : sc.kind = .function
  co : sc.isCoroutine = false
  gen : sc.isGenerator = false
  nd : N.Nodup
  pre : N.take P.length = P
  par : ∀ x ∈ P, sc.names.lookup x = some .local ∨ sc.names.lookup x = some .cell
  nofree : ∀ y ∈ sc.names, y.2 ≠ .free
theorem lN {kindOf:Str→Option NameKind}{x:Str}:∀ {binds:List (Str×Value)}{m:Str→Option Value},(∀ v,(x,v)∉binds)→bindL kindOf binds m x=m x
 | [],_,_=>rfl
 | (n,v)::r,m,h=>by
  unfold bindL
  rw[lN fun w hw=>h w (List.mem_cons_of_mem _ hw)]
  split
  ·have:x≠n:=by rintro rfl;exact h v List.mem_cons_self
   simp[this]
  ·rfl
theorem lP {kindOf:Str→Option NameKind}{x:Str}:∀ {binds:List (Str×Value)}{m:Str→Option Value},(∀ v,(x,v)∉binds)→bindC kindOf binds m x=m x
 | [],_,_=>rfl
 | (n,v)::r,m,h=>by
  unfold bindC
  rw[lP fun w hw=>h w (List.mem_cons_of_mem _ hw)]
  split
  ·rfl
  ·have:x≠n:=by rintro rfl;exact h v List.mem_cons_self
   simp[this]
theorem lO {kindOf:Str→Option NameKind}{x:Str}{v:Value}:∀ {P:List Str}{vs:List Value}{i:Nat}{m:Str→Option Value},P.Nodup→P[i]?=some x→vs[i]?=some v→kindOf x=some .local→
  bindL kindOf (P.zip vs) m x=some v
 | [],_,_,_,_,h,_,_=>by simp at h
 | _::_,[],_,_,_,_,h,_=>by simp at h
 | p::P,w::vs,0,m,nd,h1,h2,hk=>by
  simp at h1 h2;subst h1;subst h2
  show bindL kindOf ((p,w)::P.zip vs) m p=_
  unfold bindL
  rw[lN fun v hv=>(List.nodup_cons.mp nd).1 (List.of_mem_zip hv).1,if_pos hk]
  simp
 | p::P,w::vs,i+1,m,nd,h1,h2,hk=>by
  show bindL kindOf ((p,w)::P.zip vs) m x=_
  unfold bindL
  exact lO (i:=i) (List.nodup_cons.mp nd).2 (by simpa using h1) (by simpa using h2) hk
theorem lQ {kindOf:Str→Option NameKind}{x:Str}{v:Value}:∀ {P:List Str}{vs:List Value}{i:Nat}{m:Str→Option Value},P.Nodup→P[i]?=some x→vs[i]?=some v→kindOf x≠some .local→
  bindC kindOf (P.zip vs) m x=some v
 | [],_,_,_,_,h,_,_=>by simp at h
 | _::_,[],_,_,_,_,h,_=>by simp at h
 | p::P,w::vs,0,m,nd,h1,h2,hk=>by
  simp at h1 h2;subst h1;subst h2
  show bindC kindOf ((p,w)::P.zip vs) m p=_
  unfold bindC
  rw[lP fun v hv=>(List.nodup_cons.mp nd).1 (List.of_mem_zip hv).1,if_neg hk]
  simp
 | p::P,w::vs,i+1,m,nd,h1,h2,hk=>by
  show bindC kindOf ((p,w)::P.zip vs) m x=_
  unfold bindC
  exact lQ (i:=i) (List.nodup_cons.mp nd).2 (by simpa using h1) (by simpa using h2) hk
def start (N:List Str)(vs:List V):St:=vs.map some++List.replicate (N.length - vs.length) none
def j9 (CX:CXT)(P:Program)(w:World)(K:PySem.W.Frag)(mg:Str→Option Value)(base:Heap)(N:List Str)(qual:Str)(scope:Scope)(f:Addr)(cd:Value)(A:Around)(outer:List Env)(s:Shared)(H:Hp)(E:XK):Cx where
 prog:=P
 w:=w
 K:=K
 mg:=mg
 base:=base
 A:=A.deeper (envOfC qual scope s.heap.objs.size f cd)
 N:=N
 s₀:=s
 H₀:=H
 env:=envOfC qual scope s.heap.objs.size f cd
 outer:=outer
 stack:=envOfC qual scope s.heap.objs.size f cd::outer
 ex:=[]
 calm:=true
 fn:=fun _=>true
 pn:=[]
 xe:=fun e s'=>wpAny (model P w) (A.deeper (envOfC qual scope s.heap.objs.size f cd)) (leaving (envOfC qual scope s.heap.objs.size f cd) e) (fun _ s''=>CX outer H s E e s'') (fun e' s''=>CX outer H s E e' s'') s'
theorem oY {sc:Scope}{n:Nat}{x:Str} (h:sc.names.lookup x=some .cell):∃ c,(cellsFrom n sc.names []).lookup x=some c:=by
 have q:=PySem.W.cellsFrom_some sc.names n [] (.inl h)
 exact Option.isSome_iff_exists.mp q
theorem sx {CX:CXT}{P:Program}{w:World}{K:PySem.W.Frag}{mg:Str→Option Value}{base:Heap}{N ps:List Str}{qual:Str}{scope:Scope}{f:Addr}{cd:Value}{A:Around}{outer:List Env}{s s1:Shared}{H:Hp}{E:XK}{us:List Value}{vs:List V}
  (S:am N ps scope) (hd:A.handled=none) (e0:Env0 P w K mg base A outer s H) (hl:vs.length=ps.length) (r:Vals vs us)
  (x:InCallC s s.heap.objs.size (bindL (envOfC qual scope s.heap.objs.size f cd).kindOf (ps.zip us) fun _=>none) (cellsFrom (s.heap.objs.size+1) scope.names []) (bindC (envOfC qual scope s.heap.objs.size f cd).kindOf (ps.zip us) fun _=>none) s1):
  Inv (j9 CX P w K mg base N qual scope f cd A outer s H E) [] (start N vs) H s1:=by
 have hpl:ps.length≤N.length:=by have:=congrArg List.length S.pre;rw[List.length_take]at this;omega
 obtain⟨h1,tk,rfl,hk⟩:=x.done
 have noA:∀ b:Addr,b∉(j9 CX P w K mg base N qual scope f cd A outer s H E).ex:=fun b z=>absurd (show b∈([]:List Addr) from z) (by simp)
 refine⟨⟨e0.mod,S.kind,rfl,rfl,Nat.le_refl _,fun y z c h1 h2=>?_,fun y hy=>?_,fun y c _ h=>?_,fun _=>hd,Around.frames_deeper e0.frames,.inr ⟨rfl,rfl⟩,fun b z=>absurd z (noA b),e0.bs,e0.bsz,fun b _ _=>noA b,fun b z=>absurd z (noA b),e0.funs,e0.frf⟩,
  rfl,e0.bare,Un.kept hk,⟨_,x.toInCall.ns,fun i y v h1 h2 h3=>?_⟩,fun y c h=>⟨_,x.cell y c h⟩,e0.hok.fresh (Nat.le_refl _),fun y c h=>?_,fun p hp=>absurd (show p∈([]:List (Addr×Obj)) from hp) (by simp),e0.hok.kept hk,?_⟩
 ·exact name_of_addr x.apart (PySem.mem_of_lookup h1) (PySem.mem_of_lookup h2)
 ·have hy:scope.names.lookup y=some .cell∨scope.names.lookup y=some .free:=hy
  rcases hy with hy|hy
  ·exact oY hy
  ·exact absurd rfl (S.nofree _ (PySem.mem_of_lookup hy))
 ·exact Nat.le_of_lt (x.above y c (PySem.mem_of_lookup h))
 ·have hi:i<vs.length:=by
   unfold start at h2
   by_cases hi:i<vs.length
   ·exact hi
   ·rw[List.getElem?_append_right (by simpa using hi)]at h2
    rw[List.getElem?_replicate]at h2
    split at h2 <;> cases h2
  have ha:vs[i]?=some v:=by
   unfold start at h2
   rw[List.getElem?_append_left (by simpa using hi),List.getElem?_map]at h2
   cases e:vs[i]? with
   | none=>rw[e]at h2;cases h2
   | some a=>rw[e]at h2;cases h2;rfl
  obtain⟨u,hu,rv⟩:=r.get ha
  have hp:ps[i]?=some y:=by
   rw[← S.pre,List.getElem?_take_of_lt (by omega)];exact h1
  have ndP:ps.Nodup:=by rw[← S.pre];exact S.nd.sublist (List.take_sublist _ _)
  refine⟨u,rv,?_⟩
  rcases S.par y (List.mem_of_getElem? hp) with k|k
  ·exact .inl ⟨k,lO ndP hp hu k⟩
  ·obtain⟨c,e⟩:=oY (n:=s.heap.objs.size+1) k
   refine .inr ⟨.inl k,c,e,?_⟩
   have q:=x.cell y c e
   rw[lQ ndP hp hu (by show scope.names.lookup y≠_;rw[k];decide)]at q
   exact q
 ·exact e0.hok.fresh (Nat.le_of_lt (x.above y c (PySem.mem_of_lookup h)))
 ·unfold start
  show _=N.length
  rw[List.length_append,List.length_map,List.length_replicate]
  omega
theorem uc {CX:CXT}{P:Program}{w:World}{K:PySem.W.Frag}{mg:Str→Option Value}{base:Heap}{k:Nat}{f:Addr}{name qual:Str}{params:Arguments}{body:List Stmt}{scope:Scope}{dV kV doc pm cdv ct oc:Value}{an od:Option Addr}
  {osl:Array (Option Value)}{N ps:List Str}{sp:Sp} (lk:K.lookup f=some ⟨oc,od,.func (PySem.W.fnOf name qual params body scope dV kV doc pm an cdv ct),osl⟩) (hcd:PySem.W.codeIn K cdv qual=true) (S:am N ps scope)
  (len:∀ vs H Q E,sp vs H Q E→vs.length=ps.length)
  (hbody:∀ (A:Around)(outer:List Env)(s:Shared)(H:Hp)(vs:List V)(Q:VK)(E:XK),Room k (A.deeper (envOfC qual scope s.heap.objs.size f cdv))→sp vs H Q E→
   ∃ t,PSs (j9 CX P w K mg base N qual scope f cdv A outer s H E) body t∧t { nx:=fun _ H'=>Q .non H',rt:=Q } (start N vs) H):
  FnOk P w K mg base CX (k+1) f (PySem.W.fnOf name qual params body scope dV kV doc pm an cdv ct) ps sp:=by
 refine⟨len,fun A outer s H args us vs Q E hr e0 hb r hsp=>?_⟩
 have hl:=len _ _ _ _ hsp
 have KX:K.In s.heap:=e0.mod.kin.keeps fun b o e=>(e0.bs b o e).1
 have lim:s.heap.NoLimit:=e0.mod.nolimit.keeps fun b o e=>(e0.bs b o e).1
 have hkind:∀ y∈ps.zip us,scope.names.lookup y.1=some .local∨(scope.names.lookup y.1=some .cell∧((cellsFrom (s.heap.objs.size+1) scope.names []).lookup y.1).isSome=true):=fun⟨n,v⟩ hy=>by
  rcases S.par n (List.of_mem_zip hy).1 with q|q
  ·exact .inl q
  ·exact .inr ⟨q,PySem.W.cellsFrom_some _ _ _ (.inl q)⟩
 refine codeAny_call_function hr.depth (KX _ _ lk) rfl S.co S.gen rfl (PySem.W.codeRec_of KX hcd) (hb _ _ _ _ ?_)
 refine wpAny_newFunctionEnv_cells S.kind hkind fun env he s1 x=>?_
 subst he
 refine⟨lim.keeps x.toInCall.keep,codeAny_func ?_⟩
 obtain⟨t,ht,hq⟩:=hbody A outer s H vs Q E (hr.deeper _) hsp
 have I:Inv (j9 CX P w K mg base N qual scope f cdv A outer s H E) [] (start N vs) H s1:=sx S hr.hd e0 hl r x
 refine wpAny_mono (ht [] s1 (start N vs) H _ I hq) (fun fl s' hs=>?_) fun e s' hs=>hs
 have fin:∀ {σ':St}{H':Hp}{v:V}{u:Value},Inv (j9 CX P w K mg base N qual scope f cdv A outer s H E) [] σ' H' s'→RelV v u→Q v H'→CE outer P w H s Q u s':=
  fun {σ' H' v u} J rv q=>⟨v,H',J.os,J.bare,J.base,J.hok,rv,q⟩
 cases fl with
 | ret u=>
  obtain⟨v,σ',H',J,rv,q⟩:=hs
  exact fin J rv q
 | next=>
  obtain⟨σ',H',J,q⟩:=hs
  exact fin (v:=V.non) (u:=Value.none) J rfl q
 | brk=>
  obtain⟨_,_,_,q⟩:=hs
  exact False.elim q
 | cont=>
  obtain⟨_,_,_,q⟩:=hs
  exact False.elim q
section
variable {X : Cx}{x : Str}{p pos : Pos}{e : Expr}{es : List Expr}{t : TA}{id T : String}{r : List V → Hp → VK → Prop}
def tCB (r:List V→Hp→VK→Prop)(t:TA):TE:=fun σ H Q=>t σ H fun vs H1=>r vs H1 Q
theorem aB (hc:CallR X (.builtin id) r)(hg:Gl X x)(hm:X.mg x=none)(hv:bootBuiltins x=some (.builtin id))(ha:PA X (e::es) t)(hn:x≠"__name__":=by decide)(hdb:(x==("__debug__":Str))=false:=by decide)
  (he:starEach (e::es) X.env=(false,eval e X.env)::starEach es X.env:=by rfl) (hpl:(backTo pos (starEach es X.env)).any (·.1)=false:=by rfl):PE X (.Call (.Name x p) (e::es) [] pos) (tCB r t):=by
 intro pins s σ H Q I h
 refine wpAny_Call_Name_kw (iE I hg hm hv ?_ hn hdb)
 exact PyProof.Rows.callWith_builtin1 (thn (ha pos pins s σ H _ I h) fun us s1 ⟨vs,H1,I1,r1,q1⟩=>hc pins s1 σ H1 vs us Q I1 r1 q1) he hpl
theorem br (hc:CallR X (.type T) r)(hg:Gl X x)(hm:X.mg x=none)(hv:bootBuiltins x=some (.type T))(ha:PA X (e::es) t)(hn:x≠"__name__":=by decide)(hdb:(x==("__debug__":Str))=false:=by decide)
  (he:starEach (e::es) X.env=(false,eval e X.env)::starEach es X.env:=by rfl) (hpl:(backTo pos (starEach es X.env)).any (·.1)=false:=by rfl):PE X (.Call (.Name x p) (e::es) [] pos) (tCB r t):=by
 intro pins s σ H Q I h
 refine wpAny_Call_Name_kw (iE I hg hm hv ?_ hn hdb)
 exact PyProof.Rows.callWith_type1 (thn (ha pos pins s σ H _ I h) fun us s1 ⟨vs,H1,I1,r1,q1⟩=>hc pins s1 σ H1 vs us Q I1 r1 q1) he hpl
end
end L2
namespace HT
open PySem PyProof.Rows
theorem eqAt_int (A:Around)(s:Shared)(a:Int)(t:Tok)(c:Int)(u:Tok):∃ e,SeqAt.EqAt A s (.int a t) (.int c u) e∧(e=true ↔ a=c):=
 ⟨(a==c),SeqAt.EqAt.int_int a t c u,by simp⟩
section
open PySem.SeqAt
open PySem.AutoSeq1 (wpAny_loadPart')
open PySem.MeetsSeq PySem.MeetsSeq2 PySem.MeetsSeq3
end
section
variable {prog : Program}{w : World}{A : Around}{E : Value → Shared → Prop}{s : Shared}
def sIx (n d:Nat):Option Int→Nat
 | none=>d
 | some v=>if v<0 then (v+(n:Int)).toNat else min v.toNat n
theorem sIx_none (n d:Nat):sIx n d none=d:=rfl
theorem sIx_nat (n d k:Nat):sIx n d (some (k:Int))=min k n:=by
 show (if (k:Int)<0 then ((k:Int)+(n:Int)).toNat else min (k:Int).toNat n)=min k n
 rw[if_neg (by omega),Int.toNat_natCast]
end
end HT
namespace L2
open PySem PySem.Spec PyProof.Rows
abbrev TO:=St→Hp→(Option Int→Hp→Prop)→Prop
def PO (X:Cx)(e:Option Expr)(t:TO):Prop:=
 ∀ (pins:List (Addr×Obj))(s:Shared)(σ:St)(H:Hp)(Q:Option Int→Hp→Prop),Inv X pins σ H s→t σ H Q→
  wpAny (model X.prog X.w) X.A (evalPart e X.env) (fun u s'=>∃ o H',Inv X pins σ H' s'∧IsPart u o∧Q o H') X.xe s
def uE:TO:=fun _ H Q=>Q none H
def tPart (t:TE):TO:=fun σ H Q=>t σ H fun x H1=>∃ i,x=.int i∧Q (some i) H1
theorem qi {ns:List Int}:∀ {us:List Value},Vals (ns.map V.int) us→IntsAre us ns:=by
 induction ns with
 | nil=>intro us r;rw[List.map_nil]at r;cases r;exact .nil
 | cons n ns ih=>
  intro us r
  rw[List.map_cons]at r
  cases r with
  | cons r1 r2=>
   obtain⟨t,e⟩:=r1
   subst e
   exact .cons n t (ih r2)
section
variable {X : Cx}{e : Expr}{te : TE}{lo hi : Option Expr}{tl th : TO}{pos p2 : Pos}
theorem gW:PO X none uE:=by
 intro pins s σ H Q I h
 rw[evalPart_none]
 exact wpAny_pure ⟨none,H,I,.none,h⟩
theorem bI (h:PE X e te):PO X (some e) (tPart te):=by
 intro pins s σ H Q I hw
 rw[evalPart_some]
 refine thn (h pins s σ H _ I hw) fun u s1 ⟨x,H1,I1,r1,q1⟩=>?_
 obtain⟨i,rfl,q⟩:=q1
 obtain⟨t,rfl⟩:=r1
 exact⟨some i,H1,I1,.int i t,q⟩
def SlR (X:Cx)(r:V→Option Int→Option Int→Hp→VK→Prop):Prop:=
 ∀ (pins:List (Addr×Obj))(s:Shared)(σ:St)(H:Hp)(x:V)(v vl vu:Value)(lo hi:Option Int)(sl:Addr)(Q:VK),Inv X pins σ H s→RelV x v→s.heap.IsSliceOf sl vl vu .none→IsPart vl lo→IsPart vu hi→r x lo hi H Q→
  ∃ T id,typeLookup (.type T) "__getitem__"=pure (some (.builtin id))∧s.TypeIs v T∧wpAny (model X.prog X.w) X.A (getItem v (.ref sl)) (EP X pins σ Q) X.xe s
def tSl (r:V→Option Int→Option Int→Hp→VK→Prop)(te:TE)(tl th:TO):TE:=fun σ H Q=>te σ H fun x H1=>tl σ H1 fun l H2=>th σ H2 fun u H3=>r x l u H3 Q
theorem cA {r:V→Option Int→Option Int→Hp→VK→Prop}(hr:SlR X r)(he:PE X e te)(hl:PO X lo tl)(hu:PO X hi th):PE X (.Subscript e (.Slice lo hi none p2) pos) (tSl r te tl th):=by
 intro pins s σ H Q I h
 refine Subscript_ (thn (he pins s σ H _ I h) fun v s1 ⟨x,H1,I1,r1,q1⟩=>?_)
 refine wpAny_Slice (thn (hl pins s1 σ H1 _ I1 q1) fun vl s2 ⟨l,H2,I2,pl,q2⟩=>thn (hu pins s2 σ H2 _ I2 q2) fun vu s3 ⟨u,H3,I3,pu,q3⟩=>?_)
 rw[evalPart_none]
 refine wpAny_pure ?_
 have I4:Inv X pins σ H3 { s3 with heap:=s3.heap.push { cls:=.type "slice",data:=.fields #[vl,vu,.none] } }:=I3.kept (t':=s3.toks) fun b ob q=>Heap.get?_push_of_some _ q
 obtain⟨T,id,hT,ht,hg⟩:=hr pins { s3 with heap:=s3.heap.push { cls:=.type "slice",data:=.fields #[vl,vu,.none] } } σ H3 x v vl vu l u s3.heap.objs.size Q I4 r1 (Heap.IsSliceOf.new ..) pl pu q3
 show wpAny (model X.prog X.w) X.A (subscriptTail e (.Slice lo hi none p2) v (.ref s3.heap.objs.size)) (EP X pins σ Q) X.xe { s3 with heap:=s3.heap.push { cls:=.type "slice",data:=.fields #[vl,vu,.none] } }
 exact tail_any (ops:=[.ref s3.heap.objs.size,v]) ht hT hg (by with_unfolding_all rfl)
def cm (xs:List V)(lo hi:Option Int):List V:=(xs.drop (HT.sIx xs.length 0 lo)).take (HT.sIx xs.length xs.length hi - HT.sIx xs.length 0 lo)
theorem oR (xs:List V)(lo hi:Option Int):(cm xs lo hi).length≤xs.length:=by
 unfold cm
 rw[List.length_take,List.length_drop]
 omega
end
def ixN (n:Nat)(i:Int):Option Nat:=if 0≤i then (if i<n then some i.toNat else none) else if -(n:Int)≤i then some (i+n).toNat else none
def atI {α:Type}(xs:List α)(i:Int):Option α:=(ixN xs.length i).bind fun j=>xs[j]?
theorem vk {n:Nat}{i:Int}{j:Nat} (h:ixN n i=some j):seqIndex? i n=some j∧j<n∧-(n:Int)≤i∧i<n:=by
 unfold ixN at h
 by_cases h0:0≤i
 ·rw[if_pos h0]at h
  by_cases h1:i<n
  ·rw[if_pos h1]at h
   have e:i.toNat=j:=Option.some.inj h
   exact⟨by rw[seqIndex_of h0 h1,e],by omega,by omega,h1⟩
  ·rw[if_neg h1]at h;cases h
 ·rw[if_neg h0]at h
  by_cases h1:-(n:Int)≤i
  ·rw[if_pos h1]at h
   have e:(i+n).toNat=j:=Option.some.inj h
   exact⟨by rw[seqIndex_neg (by omega) h1,e],by omega,h1,by omega⟩
  ·rw[if_neg h1]at h;cases h
theorem rB {α:Type}{xs:List α}{i:Int}{v:α} (h:atI xs i=some v):∃ j,seqIndex? i xs.length=some j∧xs[j]?=some v∧j<xs.length∧-(xs.length:Int)≤i∧i<xs.length:=by
 unfold atI at h
 cases e:ixN xs.length i with
 | none=>rw[e]at h;cases h
 | some j=>
  rw[e]at h
  obtain⟨h1,h2,h3,h4⟩:=vk e
  exact⟨j,h1,h,h2,h3,h4⟩
def vG (b:Expr):Prop:=∀ o i,subscripted b false o i=operate [o,i] (getItem o i)
def IxR (X:Cx)(r:R2):Prop:=
 ∀ (value slice:Expr)(pins:List (Addr×Obj))(s:Shared)(σ:St)(H:Hp)(x y:V)(v u:Value)(Q:VK),Inv X pins σ H s→RelV x v→RelV y u→r x y H Q→
  subscripted slice false v u=operate [v,u] (getItem v u)→wpAny (model X.prog X.w) X.A (subscriptTail value slice v u) (EP X pins σ Q) X.xe s
def MtR (X:Cx)(id:String)(r:V→List V→Hp→VK→Prop):Prop:=
 ∀ (pins:List (Addr×Obj))(s:Shared)(σ:St)(H:Hp)(x:V)(xs:List V)(v:Value)(us:List Value)(Q:VK),Inv X pins σ H s→RelV x v→Vals xs us→r x xs H Q→
  wpAny (model X.prog X.w) X.A (call (.builtin id) (v::us)) (EP X pins σ Q) X.xe s
section
variable {X : Cx}{a b : Expr}{ta tb : TE}{pos : Pos}
theorem aV {r:R2}(hr:IxR X r)(ha:PE X a ta)(hb:PE X b tb)(hs:vG b):PE X (.Subscript a b pos) (tOp r ta tb):=by
 intro pins s σ H Q I h
 exact Subscript_ (binT ha hb I h fun v u s2 x y H2 I2 rx ry q=>hr a b pins s2 σ H2 x y v u Q I2 rx ry q (hs _ _))
def rIxL (K:PySem.W.Frag):R2:=fun x y H Q=>∃ p xs i v,x=.ref p∧y=.int i∧SqL K H p xs∧atI xs i=some v∧Q v H
def rIxT (K:PySem.W.Frag):R2:=fun x y H Q=>∃ p xs i v,x=.ref p∧y=.int i∧SqT K H p xs∧atI xs i=some v∧Q v H
theorem vj:IxR X (rIxL X.K):=by
 intro value slice pins s σ H x y v u Q I rx ry h hs
 obtain⟨p,xs,i,z,rfl,rfl,hq,he,q⟩:=h
 cases rx
 obtain⟨t,rfl⟩:=ry
 obtain⟨its,r,pl,hz⟩:=I.list hq
 obtain⟨j,h1,h2,h3,h4,h5⟩:=rB he
 obtain⟨w,ew,rw'⟩:=r.get h2
 have hl:=r.length
 have hn:=mG
 have fin:EP X pins σ Q w s:=⟨z,H,I,rw',q⟩
 by_cases h0:0≤i
 ·have hj:i.toNat=j:=by
   rw[seqIndex_of h0 h5]at h1
   exact Option.some.inj h1
  exact item_listR pl.isList h0 (by omega) (by rw[hj];simpa using ew) fin hs
 ·have hj:(i+(its.toArray.size:Int)).toNat=j:=by
   rw[seqIndex_neg (by omega) h4]at h1
   rw[List.size_toArray,← hl]
   exact Option.some.inj h1
  exact subscriptTail_builtinR (x:=w) pl.isList.typeIs slot_list_getitem.lookup
   (wpAny_getItem_list_neg (Q:=fun r s'=>r=w∧EP X pins σ Q r s') pl.isList (by omega) (by rw[List.size_toArray] <;> omega) (by omega) (by rw[hj];simpa using ew) ⟨rfl,fin⟩) hs
theorem ix_tup:IxR X (rIxT X.K):=by
 intro value slice pins s σ H x y v u Q I rx ry h hs
 obtain⟨p,xs,i,z,rfl,rfl,hq,he,q⟩:=h
 cases rx
 obtain⟨t,rfl⟩:=ry
 obtain⟨its,r,pl,hz⟩:=I.tuple hq
 obtain⟨j,h1,h2,h3,h4,h5⟩:=rB he
 obtain⟨w,ew,rw'⟩:=r.get h2
 have hl:=r.length
 have hn:=mG
 have fin:EP X pins σ Q w s:=⟨z,H,I,rw',q⟩
 exact subscriptTail_builtinR (x:=w) pl.typeIs slot_tuple_getitem.lookup
  (getItem_tuple (j:=j) (Q:=fun r s'=>r=w∧EP X pins σ Q r s') pl (by omega) (by omega) (by rw[List.size_toArray,← hl];exact h1) (by simpa using ew) ⟨rfl,fin⟩) hs
theorem Inv.lst {pins:List (Addr×Obj)}{σ:St}{H:Hp}{s:Shared}{p:Addr}{xs:List V} (I:Inv X pins σ H s) (h:H p=some (.lst xs)):
  ∃ (its:List Value)(n:Nat),Vals xs its∧s.heap.get? p=some { cls:=.type "list",data:=.seq its.toArray n }∧xs.length≤sizeLine:=by
 obtain⟨z,its,n,r,e⟩:=I.hok p _ h
 exact⟨its,n,r,e,z⟩
theorem lX (lo hi:Option Int)(n:Nat):(sliceBounds lo hi none n).1=((HT.sIx n 0 lo:Nat):Int)∧(sliceBounds lo hi none n).2.1=((HT.sIx n n hi:Nat):Int)∧(sliceBounds lo hi none n).2.2=1:=by
 refine⟨?_,?_,rfl⟩
 ·cases lo with
  | none=>simp[sliceBounds,HT.sIx]
  | some i=>
   simp only[sliceBounds,HT.sIx,Option.getD_none,show (1:Int) > 0 by decide,if_true]
   by_cases h:i<0
   ·simp only[h,if_true] <;> omega
   ·simp only[h,if_false] <;> omega
 ·cases hi with
  | none=>simp[sliceBounds,HT.sIx]
  | some i=>
   simp only[sliceBounds,HT.sIx,Option.getD_none,show (1:Int) > 0 by decide,if_true]
   by_cases h:i<0
   ·simp only[h,if_true] <;> omega
   ·simp only[h,if_false] <;> omega
theorem ky (its:List Value)(lo hi:Option Int):slicePick its.toArray lo hi none=((its.drop (HT.sIx its.length 0 lo)).take (HT.sIx its.length its.length hi - HT.sIx its.length 0 lo)).toArray:=by
 obtain⟨h1,h2,h3⟩:=lX lo hi its.toArray.size
 unfold slicePick
 rw[h1,h2,h3]
 simp only[sliceRange_one,pick_run,List.size_toArray] <;> rfl
def rSlL (K:PySem.W.Frag):V→Option Int→Option Int→Hp→VK→Prop:=fun x lo hi H Q=>∃ a xs,x=.ref a∧SqL K H a xs∧∀ p,H p=none→Q (.ref p) (upd H p (.lst (cm xs lo hi)))
theorem sl_list:SlR X (rSlL X.K):=by
 intro pins s σ H x v vl vu lo hi sl Q I rx hs pl pu h
 obtain⟨a,xs,rfl,hx,q⟩:=h
 cases rx
 obtain⟨its,r,ht,hz⟩:=I.list hx
 have hlen:=r.length
 refine⟨"list",_,slot_list_getitem.lookup,ht.isList.typeIs,?_⟩
 refine wpAny_getItem_list_slice ht.isList hs pl pu .none (by simp) ?_ (by rw[List.size_toArray] <;> omega)
 rw[ky,← hlen]
 refine⟨.ref s.heap.objs.size,_,I.laid (t':=s.toks) (o:=.lst (cm xs lo hi)) (fun b ob q=>Heap.get?_push_of_some _ q) (Nat.le_refl _) ?_,rfl,q _ (I.hok.fresh (Nat.le_refl _))⟩
 exact⟨Nat.le_trans (oR xs lo hi) hz,_,0,(r.drop (HT.sIx xs.length 0 lo)).take (HT.sIx xs.length xs.length hi - HT.sIx xs.length 0 lo),Heap.get?_push_size _ rfl⟩
def gb:V→Bool
 | .non=>true
 | .bl _=>true
 | .int _=>true
 | .str _=>true
 | _=>false
def eqV:V→V→Bool
 | .non,.non=>true
 | .bl a,.bl b=>a==b
 | .bl a,.int b=>(if a then 1 else 0)==b
 | .int a,.bl b=>a==(if b then 1 else 0)
 | .int a,.int b=>a==b
 | .str a,.str b=>a==b
 | _,_=>false
theorem eqAt_V {A:Around}{s:Shared}{y x:V}{u v:Value} (ry:RelV y u) (rx:RelV x v) (fy:gb y=true) (fx:gb x=true):SeqAt.EqAt A s u v (eqV y x):=by
 cases y with
 | non=>
  cases ry
  cases x with
  | non=>cases rx;exact SeqAt.EqAt.same _
  | bl b=>cases rx;exact SeqAt.EqAt.none_bool b
  | int b=>obtain⟨t,rfl⟩:=rx;exact SeqAt.EqAt.none_int b t
  | str b=>obtain⟨t,rfl⟩:=rx;exact SeqAt.EqAt.none_str b t
  | _=>exact absurd (show false=true from fx) Bool.false_ne_true
 | bl a=>
  cases ry
  cases x with
  | non=>cases rx;exact SeqAt.EqAt.bool_none a
  | bl b=>cases rx;exact SeqAt.EqAt.bool_bool a b
  | int b=>obtain⟨t,rfl⟩:=rx;exact SeqAt.EqAt.bool_int a b t
  | str b=>obtain⟨t,rfl⟩:=rx;exact SeqAt.EqAt.bool_str a b t
  | _=>exact absurd (show false=true from fx) Bool.false_ne_true
 | int a=>
  obtain⟨t',rfl⟩:=ry
  cases x with
  | non=>cases rx;exact SeqAt.EqAt.int_none a t'
  | bl b=>cases rx;exact SeqAt.EqAt.int_bool a t' b
  | int b=>obtain⟨t,rfl⟩:=rx;exact SeqAt.EqAt.int_int a t' b t
  | str b=>obtain⟨t,rfl⟩:=rx;exact SeqAt.EqAt.int_str a t' b t
  | _=>exact absurd (show false=true from fx) Bool.false_ne_true
 | str a=>
  obtain⟨t',rfl⟩:=ry
  cases x with
  | non=>cases rx;exact SeqAt.EqAt.str_none a t'
  | bl b=>cases rx;exact SeqAt.EqAt.str_bool a t' b
  | int b=>obtain⟨t,rfl⟩:=rx;exact SeqAt.EqAt.str_int a t' b t
  | str b=>obtain⟨t,rfl⟩:=rx;exact SeqAt.EqAt.str_str a t' b t
  | _=>exact absurd (show false=true from fx) Bool.false_ne_true
 | _=>exact absurd (show false=true from fy) Bool.false_ne_true
def eqU (x:V)(u:Value):Bool:=match u with
 | .none=>eqV .non x
 | .bool b=>eqV (.bl b) x
 | .int i _=>eqV (.int i) x
 | .str z _=>eqV (.str z) x
 | _=>false
theorem ug {x y:V}{u:Value} (r:RelV y u) (f:gb y=true):eqU x u=eqV y x:=by
 cases y with
 | non=>cases r;rfl
 | bl b=>cases r;rfl
 | int i=>obtain⟨t,rfl⟩:=r;rfl
 | str z=>obtain⟨t,rfl⟩:=r;rfl
 | _=>exact absurd (show false=true from f) Bool.false_ne_true
theorem i5 {x:V}:∀ {xs:List V}{us:List Value},Vals xs us→xs.all gb=true→us.any (eqU x)=xs.any fun y=>eqV y x
 | _,_,.nil,_=>rfl
 | y::xs,u::us,.cons r t,f=>by
  rw[List.all_cons,Bool.and_eq_true]at f
  rw[List.any_cons,List.any_cons,ug r f.1,i5 t f.2]
theorem fm {A:Around}{s:Shared}{x:V}{v:Value} (rx:RelV x v) (fx:gb x=true):∀ {xs:List V}{us:List Value},Vals xs us→xs.all gb=true→∀ u∈us,SeqAt.EqAt A s u v (eqU x u)
 | _,_,.nil,_=>fun u hu=>by cases hu
 | y::xs,u::us,.cons r t,f=>fun u' hu=>by
  rw[List.all_cons,Bool.and_eq_true]at f
  rcases List.mem_cons.mp hu with rfl|hu
  ·rw[ug r f.1];exact eqAt_V r rx f.1 fx
  ·exact fm rx fx t f.2 u' hu
def inV (x:V)(xs:List V):Bool:=xs.any fun y=>eqV y x
def rIn (K:PySem.W.Frag)(neg:Bool):R2:=fun x y H Q=>∃ p xs,y=.ref p∧(SqL K H p xs∨SqT K H p xs)∧gb x=true∧xs.all gb=true∧Q (.bl (if neg then !inV x xs else inV x xs)) H
theorem rX:OpR X (compareOp .In) (rIn X.K false):=by
 intro pins s σ H x y v u Q I rx ry h
 obtain⟨p,xs,rfl,hq,fx,fs,q⟩:=h
 cases ry
 rcases hq with hq|hq
 ·obtain⟨its,r,pl,hz⟩:=I.list hq
  refine SeqAt.in_listAt (eqU x) pl.isList (fun w hw=>fm rx fx r fs w (by simpa using hw)) ⟨.bl _,H,I,rfl,?_⟩
  rw[show its.toArray.any (eqU x)=its.any (eqU x) by simp,i5 r fs]
  exact q
 ·obtain⟨its,r,pl,hz⟩:=I.tuple hq
  refine SeqAt.in_tupleAt (eqU x) pl (fun w hw=>fm rx fx r fs w (by simpa using hw)) ⟨.bl _,H,I,rfl,?_⟩
  rw[show its.toArray.any (eqU x)=its.any (eqU x) by simp,i5 r fs]
  exact q
theorem my:OpR X (compareOp .NotIn) (rIn X.K true):=by
 intro pins s σ H x y v u Q I rx ry h
 obtain⟨p,xs,rfl,hq,fx,fs,q⟩:=h
 cases ry
 rcases hq with hq|hq
 ·obtain⟨its,r,pl,hz⟩:=I.list hq
  refine SeqAt.notIn_listAt (eqU x) pl.isList (fun w hw=>fm rx fx r fs w (by simpa using hw)) ⟨.bl _,H,I,rfl,?_⟩
  rw[show its.toArray.any (eqU x)=its.any (eqU x) by simp,i5 r fs]
  exact q
 ·obtain⟨its,r,pl,hz⟩:=I.tuple hq
  refine SeqAt.notIn_tupleAt (eqU x) pl (fun w hw=>fm rx fx r fs w (by simpa using hw)) ⟨.bl _,H,I,rfl,?_⟩
  rw[show its.toArray.any (eqU x)=its.any (eqU x) by simp,i5 r fs]
  exact q
theorem mR:CallR X (.builtin "len") (fun xs H Q=>∃ p ys,xs=[.ref p]∧(SqL X.K H p ys∨SqT X.K H p ys)∧Q (.int ys.length) H):=by
 intro pins s σ H xs us Q I r h
 obtain⟨p,ys,rfl,hq,q⟩:=h
 obtain⟨u,rfl,rx⟩:=dH r
 cases rx
 have hn:=mG
 rcases hq with hq|hq
 ·obtain⟨its,r',pl,hz⟩:=I.list hq
  have hlen:=r'.length
  exact Calls.call_len_list pl.isList (by simp only[List.size_toArray] <;> omega) ⟨.int ys.length,H,I.tok _,⟨s.toks+1,by rw[List.size_toArray,hlen]⟩,q⟩
 ·obtain⟨its,r',pl,hz⟩:=I.tuple hq
  have hlen:=r'.length
  exact len_tuple pl (by simp only[List.size_toArray] <;> omega) ⟨.int ys.length,H,I.tok _,⟨s.toks+1,by rw[List.size_toArray,hlen]⟩,q⟩
theorem mQ:CallR X (.builtin "len") (fun xs H Q=>∃ z,xs=[.str z]∧z.length≤sizeLine∧Q (.int z.length) H):=by
 intro pins s σ H xs us Q I r h
 obtain⟨z,rfl,hz,q⟩:=h
 obtain⟨u,rfl,t,rfl⟩:=dH r
 have hn:=mG
 exact len_str (by omega) ⟨.int z.length,H,I.tok _,⟨_,rfl⟩,q⟩
theorem mP:CallR X (.type "list") (fun xs H Q=>∃ p ys,xs=[.ref p]∧(SqL X.K H p ys∨SqT X.K H p ys)∧∀ l,H l=none→Q (.ref l) (upd H l (.lst ys))):=by
 intro pins s σ H xs us Q I r h
 obtain⟨p,ys,rfl,hq,q⟩:=h
 obtain⟨u,rfl,rx⟩:=dH r
 cases rx
 have fin:∀ (its:List Value),Vals ys its→ys.length≤sizeLine→∀ (h':Heap)(c':Nat),(∀ b o',s.heap.get? b=some o'→h'.get? b=some o')→
   h'.get? s.heap.objs.size=some { cls:=.type "list",dict:=none,data:=.seq its.toArray c',slots:=#[] }→EP X pins σ Q (.ref s.heap.objs.size) { s with heap:=h' }:=fun its r' hz h' c' kp e=>
  ⟨.ref s.heap.objs.size,_,I.laid (t':=s.toks) kp (Nat.le_refl _) (show ObjOk X.prog X.w _ h' _ (.lst ys) from ⟨hz,its,c',r',e⟩),rfl,q _ (I.hok.fresh (Nat.le_refl _))⟩
 rcases hq with hq|hq
 ·obtain⟨its,r',pl,hz⟩:=I.list hq
  have hlen:=r'.length
  obtain⟨o,ho,hc,n,hd⟩:=pl.isList
  exact call_list_seq p (.inl rfl) ho hc hd (fun h' c' kp e=>fin its r' hz h' c' kp e) (by simp only[List.size_toArray] <;> omega)
 ·obtain⟨its,r',pl,hz⟩:=I.tuple hq
  have hlen:=r'.length
  obtain⟨o,ho,hc,n,hd⟩:=pl
  exact call_list_seq p (.inr rfl) ho hc hd (fun h' c' kp e=>fin its r' hz h' c' kp e) (by simp only[List.size_toArray] <;> omega)
def tyV (K:PySem.W.Frag)(T:String)(x:V)(H:Hp):Prop:=match x with
 | .str _=>T="str"
 | .int _=>T="int"
 | .ref p=>(T="list"∧∃ xs,SqL K H p xs)∨(T="tuple"∧∃ o,K.lookup p=some o∧o.cls=.type "tuple"∧o.dict=none) ∨
   (T="dict"∧((∃ kvs,H p=some (.dK kvs))∨∃ kvs,H p=some (.dT kvs)))∨(T="set"∧∃ S n,H p=some (.set S n))
 | _=>False
theorem sQ {pins:List (Addr×Obj)}{σ:St}{H:Hp}{s:Shared}{T:String}{x:V}{v:Value} (I:Inv X pins σ H s) (r:RelV x v) (ty:tyV X.K T x H):
  s.TypeIs v T∧∀ a,v=.ref a→∃ ob,s.heap.get? a=some ob∧ob.dict=none:=by
 cases x with
 | str z=>
  obtain⟨t,rfl⟩:=r
  cases (show T="str" from ty)
  exact⟨typeIs_str s z t,fun _ e=>nomatch e⟩
 | int i=>
  obtain⟨t,rfl⟩:=r
  cases (show T="int" from ty)
  exact⟨typeIs_int s i t,fun _ e=>nomatch e⟩
 | ref p=>
  cases r
  rcases ty with⟨rfl,xs,hq⟩|⟨rfl,o,hk,hc,hd⟩|⟨rfl,hk⟩|⟨rfl,S,n,hk⟩
  ·obtain⟨its,_,pl,_⟩:=I.list hq
   refine⟨pl.isList.typeIs,fun a e=>?_⟩
   cases e
   obtain⟨o,n,e,c,hd,_⟩:=pl
   exact⟨o,e,hd⟩
  ·refine⟨⟨o,I.kIn p o hk,hc⟩,fun a e=>?_⟩
   cases e
   exact⟨o,I.kIn _ o hk,hd⟩
  ·have z:∃ o,s.heap.get? p=some o∧o.ExactDict:=by
    rcases hk with⟨kvs,hk⟩|⟨kvs,hk⟩
    ·obtain⟨_,_,_,_,o,_,_,e,ex,_⟩:=I.hok p _ hk
     exact⟨o,e,ex⟩
    ·obtain⟨_,_,_,_,o,_,_,e,ex,_⟩:=I.hok p _ hk
     exact⟨o,e,ex⟩
   obtain⟨o,e,ex⟩:=z
   refine⟨⟨o,e,ex.1⟩,fun a e2=>?_⟩
   cases e2
   exact⟨o,e,ex.2.1⟩
  ·obtain⟨o,_,_,_,e,ex,_⟩:=I.hok p _ hk
   refine⟨⟨o,e,ex.1⟩,fun a e2=>?_⟩
   cases e2
   exact⟨o,e,ex.2.1⟩
 | _=>exact False.elim ty
def tBM0 (K:PySem.W.Frag)(T:String)(r:V→List V→Hp→VK→Prop)(to:TE):TE:=fun σ H Q=>to σ H fun x H1=>tyV K T x H1∧r x [] H1 Q
def tBM (K:PySem.W.Frag)(T:String)(r:V→List V→Hp→VK→Prop)(to:TE)(t:TA):TE:=fun σ H Q=>to σ H fun x H1=>tyV K T x H1∧t σ H1 fun xs H2=>r x xs H2 Q
variable {o e : Expr}{es : List Expr}{to : TE}{t : TA}{name : Str}{apos cpos : Pos}{T id : String}{r : V → List V → Hp → VK → Prop}
theorem pe_bm0 (pa:PlainAttrs T)(slot:Slot T name id)(hty:typeOf (.builtin id)=pure (.type "method_descriptor"))(hm:MtR X id r)(ho:PE X o to)
  (hbase:attributeBase o name X.env (eval o X.env)=eval o X.env:=by rfl) (hline:(apos.endLine==cpos.line)=true:=by rfl):PE X (.Call (.Attribute o name apos) [] [] cpos) (tBM0 X.K T r to):=by
 intro pins s σ H Q I h
 refine wpAny_Call_method0_late hbase hline (thn (ho pins s σ H _ I h) fun v s1 ⟨x,H1,I1,r1,ty,q1⟩=>?_)
 obtain⟨h1,h2⟩:=sQ I1 r1 ty
 exact⟨T,id,pa,slot,hty,h1,h2,Calls.callWith_builtin rfl (PySem.evalArgs_none (hm pins s1 σ H1 x [] v [] Q I1 r1 .nil q1))⟩
theorem pe_bm (pa:PlainAttrs T)(slot:Slot T name id)(hty:typeOf (.builtin id)=pure (.type "method_descriptor"))(hm:MtR X id r)(ho:PE X o to)(ha:PA X (e::es) t)
  (hbase:attributeBase o name X.env (eval o X.env)=eval o X.env:=by rfl)
  (hfew:((backTo cpos (starEach (e::es) X.env)).all (fun x=>!x.1)&&(backToKw cpos (keywordEach [] X.env)).all (fun x=>x.1.isSome)
   && decide ((e::es).length+([]:List Keyword).length+(if ([]:List Keyword).isEmpty then 0 else 1)<30))=true:=by rfl)
  (hline:(apos.endLine==cpos.line)=true:=by rfl) (hs:starEach (e::es) X.env=(false,eval e X.env)::starEach es X.env:=by rfl) (hplain:(backTo cpos (starEach es X.env)).any (·.1)=false:=by rfl):
  PE X (.Call (.Attribute o name apos) (e::es) [] cpos) (tBM X.K T r to t):=by
 intro pins s σ H Q I h
 refine wpAny_Call_method_late hbase hfew hline rfl (thn (ho pins s σ H _ I h) fun v s1 ⟨x,H1,I1,r1,ty,q1⟩=>?_)
 obtain⟨h1,h2⟩:=sQ I1 r1 ty
 refine⟨T,id,pa,slot,hty,h1,h2,?_⟩
 have hA:=ha cpos pins s1 σ H1 _ I1 q1
 rw[hs]at hA ⊢
 refine Calls.callWith_builtin (by show (false || (backTo cpos (starEach es X.env)).any (·.1))=false;rw[hplain] <;> rfl) (Calls.evalArgs_plain ?_)
 exact thn hA fun us s2 ⟨vs,H2,I2,r2,q2⟩=>hm pins s2 σ H2 x vs v us Q I2 r1 r2 q2
end
def MtM (X:Cx)(id:String)(r:V→List V→Hp→VK→Prop):Prop:=
 ∀ (pins:List (Addr×Obj))(s:Shared)(σ:St)(H:Hp)(x:V)(xs:List V)(v:Value)(us:List Value)(Q:VK),Inv X pins σ H s→RelV x v→Vals xs us→r x xs H Q→
  wpAny (model X.prog X.w) X.A (call (.builtin id) (v::us)) (EP X pins σ Q) X.xe s
theorem Vals.one:∀ {x:V}{us:List Value},Vals [x] us→∃ u,us=[u]∧RelV x u
 | _,_,.cons r .nil=>⟨_,rfl,r⟩
theorem Vals.zero:∀ {us:List Value},Vals [] us→us=[]
 | _,.nil=>rfl
theorem Vals.dropLast {xs:List V}{us:List Value} (h:Vals xs us):Vals xs.dropLast us.dropLast:=by
 induction h with
 | nil=>exact .nil
 | cons r t ih=>
  cases t with
  | nil=>exact .nil
  | cons q t'=>exact .cons r ih
theorem Vals.rep {xs:List V}{us:List Value} (h:Vals xs us):∀ k:Nat,Vals (List.replicate k xs).flatten (List.replicate k us).flatten
 | 0=>.nil
 | k+1=>by
  rw[List.replicate_succ,List.replicate_succ,List.flatten_cons,List.flatten_cons]
  exact Vals.append h (Vals.rep h k)
theorem qm {α:Type}(l:List α):l.eraseIdx (l.length - 1)=l.dropLast:=by
 induction l with
 | nil=>rfl
 | cons a r ih=>
  cases r with
  | nil=>rfl
  | cons b r=>
   have e:(a::b::r).length - 1=((b::r).length - 1)+1:=by
    have h1:(a::b::r).length=r.length+2:=rfl
    have h2:(b::r).length=r.length+1:=rfl
    omega
   rw[e,List.eraseIdx_cons_succ,ih]
   all_goals rfl
theorem lE (its:List Value):∀ (k:Nat)(acc:List Value),
  List.foldl (fun x1 x2=>x1++x2) acc.toArray (List.replicate k its.toArray)=(acc++(List.replicate k its).flatten).toArray
 | 0,acc=>by simp
 | k+1,acc=>by
  have e:acc.toArray++its.toArray=(acc++its).toArray:=by simp
  have e2:(acc++its)++(List.replicate k its).flatten=acc++(List.replicate (k+1) its).flatten:=by
   rw[List.replicate_succ,List.flatten_cons,List.append_assoc]
  rw[← e2,← lE its k (acc++its),← e,List.replicate_succ,List.foldl_cons]
section
variable {X : Cx}{pins : List (Addr×Obj)}{σ : St}{H : Hp}{s : Shared}{l b : Addr}{xs ys zs : List V}
theorem Inv.lset {its its':List Value}{n:Nat}{f:Array Value→Array Value}{t':Nat} (I:Inv X pins σ H s) (hH:H l=some (.lst xs))
  (e:s.heap.get? l=some { cls:=.type "list",data:=.seq its.toArray n }) (hf:f its.toArray=its'.toArray) (hv:Vals ys its') (hz:ys.length≤sizeLine):
  Inv X pins σ (upd H l (.lst ys)) { s with heap:=s.heap.update l (Obj.mapSeq f),toks:=t' }:=by
 have q:=PySem.IsL.update e f
 rw[hf]at q
 refine I.write (x:=l) (e:=l) (by rw[hH];exact trivial) (.inl rfl) (fun b' u hb hu=>(Heap.get?_update_other s.heap (Obj.mapSeq f) (Ne.symm hb)).trans hu) ⟨_,q⟩ ?_
 exact⟨hz,its',_,hv,q⟩
theorem Inv.lnew {its:List Value}{t':Nat} (I:Inv X pins σ H s) (hv:Vals ys its) (hz:ys.length≤sizeLine):
  Inv X pins σ (upd H s.heap.objs.size (.lst ys)) { s with heap:=s.heap.push { cls:=.type "list",data:=.seq its.toArray },toks:=t' }:=
 I.laid (fun _ _ q=>Heap.get?_push_of_some _ q) (Nat.le_refl _) ⟨hz,its,0,hv,Heap.get?_push_size _ rfl⟩
theorem Inv.fresh (I:Inv X pins σ H s):H s.heap.objs.size=none:=I.hok.fresh (Nat.le_refl _)
theorem Inv.lstM (I:Inv X pins σ H s)(hH:H l=some (.lst xs)):xs.length≤sizeLine∧∃ (its:List Value)(n:Nat),Vals xs its∧xs.length=its.length∧s.heap.get? l=some { cls:=.type "list",data:=.seq its.toArray n }:=by
 obtain⟨z,its,n,r,e⟩:=I.hok l _ hH
 exact⟨z,its,n,r,r.length,e⟩
theorem tT {n:Nat}(h:n≤sizeLine):Builtin.List.listTooLong n=false:=by
 unfold Builtin.List.listTooLong
 exact decide_eq_false (by omega)
end
section
variable {X : Cx}
def qJ:V→List V→Hp→VK→Prop:=fun x vs H Q=>∃ l xs y,x=.ref l∧vs=[y]∧H l=some (.lst xs)∧xs.length<sizeLine∧Q .non (upd H l (.lst (xs++[y])))
theorem be:MtM X "list.append" qJ:=by
 intro pins s σ H x vs v us Q I rx rv h
 obtain⟨l,xs,y,rfl,rfl,hH,hz,q⟩:=h
 cases rx
 obtain⟨u,rfl,ru⟩:=rv.one
 obtain⟨z,its,n,r,hl,e⟩:=I.lstM hH
 refine call_meets F.slot_list_append ⟨_,e,rfl⟩ F.entry_list_append (F.args_list_append_2 _ _) (PySem.list_append l its.toArray n u (by rw[List.size_toArray];omega)) ⟨e,?_⟩
 refine⟨.non,_,I.lset (its':=its++[u]) hH e (by simp) (r.append (.cons ru .nil)) ?_,rfl,q⟩
 rw[List.length_append,List.length_singleton]
 omega
def rPop:V→List V→Hp→VK→Prop:=fun x vs H Q=>∃ l xs y,x=.ref l∧vs=[]∧H l=some (.lst xs)∧xs[xs.length - 1]?=some y∧Q y (upd H l (.lst xs.dropLast))
theorem mt_pop:MtM X "list.pop" rPop:=by
 intro pins s σ H x vs v us Q I rx rv h
 obtain⟨l,xs,y,rfl,rfl,hH,hy,q⟩:=h
 cases rx
 have hus:=rv.zero
 subst hus
 obtain⟨z,its,n,r,hl,e⟩:=I.lstM hH
 obtain⟨u,hu,ru⟩:=r.get hy
 have hy':its.toArray[its.toArray.size - 1]?=some u:=by
  show its.toArray[its.length - 1]?=some u
  rw[← Array.getElem?_toList,← hl]
  exact hu
 refine call_meets F.slot_list_pop ⟨_,e,rfl⟩ F.entry_list_pop (F.args_list_pop_1 _) (MeetsSeq.list_pop_last l its.toArray n u hy' (by rw[List.size_toArray];omega)) ⟨e,?_⟩
 refine⟨y,_,I.lset (its':=its.dropLast) hH e ?_ r.dropLast ?_,ru,q⟩
 ·show its.toArray.eraseIdxIfInBounds (its.toArray.size - 1)=its.dropLast.toArray
  rw[List.size_toArray,List.eraseIdxIfInBounds_toArray,qm]
 ·rw[List.length_dropLast]
  omega
def rCat:R2:=fun x y H Q=>∃ l b xs zs,x=.ref l∧y=.ref b∧H l=some (.lst xs)∧H b=some (.lst zs)∧xs.length+zs.length≤sizeLine∧∀ p,H p=none→Q (.ref p) (upd H p (.lst (xs++zs)))
theorem op_cat:OpR X (binaryOp .Add) rCat:=by
 intro pins s σ H x y v u Q I rx ry h
 obtain⟨l,b,xs,zs,rfl,rfl,hH,hB,hz,q⟩:=h
 cases rx
 cases ry
 obtain⟨z,its,n,r,hl,e⟩:=I.lstM hH
 obtain⟨z2,its2,n2,r2,hl2,e2⟩:=I.lstM hB
 refine PySem.P.add_list e e2 ?_ (by rw[List.size_toArray,List.size_toArray];omega)
 have ea:its.toArray++its2.toArray=(its++its2).toArray:=by simp
 rw[ea]
 exact⟨.ref _,_,I.lnew (t':=s.toks) (r.append r2) (by rw[List.length_append];omega),rfl,q _ I.fresh⟩
def rRep:R2:=fun x y H Q=>∃ l k xs,x=.ref l∧y=.int k∧H l=some (.lst xs)∧-(2 ^ 63)≤k∧k<2 ^ 63∧xs.length * k.toNat≤sizeLine∧
 ∀ p,H p=none→Q (.ref p) (upd H p (.lst (List.replicate k.toNat xs).flatten))
theorem vg {α:Type}(xs:List α)(k:Nat):(List.replicate k xs).flatten.length=k * xs.length:=by
 induction k with
 | zero=>simp
 | succ k ih=>rw[List.replicate_succ,List.flatten_cons,List.length_append,ih,Nat.succ_mul,Nat.add_comm]
theorem tK:OpR X (binaryOp .Mult) rRep:=by
 intro pins s σ H x y v u Q I rx ry h
 obtain⟨l,k,xs,rfl,rfl,hH,h1,h2,hz,q⟩:=h
 cases rx
 obtain⟨t,rfl⟩:=ry
 obtain⟨z,its,n,r,hl,e⟩:=I.lstM hH
 have hlen:its.toArray.size * k.toNat≤sizeLine:=by rw[List.size_toArray,← hl];exact hz
 have hcap:¬ its.toArray.size * k.toNat > (2 ^ 63 - 1) / 8:=by
  have:(sizeLine:Nat)≤(2 ^ 63 - 1) / 8:=by decide
  omega
 have hfit:¬ (!Builtin.List.listFitsIndex k)=true:=by
  rw[fitsIndex_both h1 h2]
  exact Bool.false_ne_true
 have hlong:¬ Builtin.List.listTooLong (its.toArray.size * k.toNat)=true:=by
  rw[tT hlen]
  exact Bool.false_ne_true
 have hnew:List.foldl (fun x1 x2=>x1++x2) #[] (List.replicate (if its.toArray.isEmpty=true then 0 else k.toNat) its.toArray)=(List.replicate k.toNat its).flatten.toArray:=by
  have f0:∀ m:Nat,List.foldl (fun x1 x2=>x1++x2) #[] (List.replicate m its.toArray)=(List.replicate m its).flatten.toArray:=fun m=>by
   have:=lE its m []
   rw[List.nil_append]at this
   exact this
  rw[f0]
  cases its with
  | nil=>simp
  | cons a r'=>rw[if_neg (by simp)]
 refine wpAny_binaryOp_repeat_ref (T:="list") (U:="int") (by decide) ⟨_,e,rfl⟩ (fun s'=>typeIs_int s' k t) noFill_list_mul F.fills_int_mul F.slot_int_rmul repeat_list F.slot_int_index.lookup
  (call_meets F.slot_int_rmul (typeIs_int s k t) F.entry_int_rmul (F.args_int_rmul_2 _ _) (int___rmul___int_list k t l its.toArray n)
   ⟨e,rfl,⟨_,e,rfl⟩,call_meets F.slot_list_mul ⟨_,e,rfl⟩ F.entry_list_mul (F.args_list_mul_2 _ _) (AutoListH.list___mul___list_int_3 l its.toArray n k t hfit hcap hlong) ⟨e,?_⟩⟩)
 rw[hnew]
 exact⟨.ref _,_,I.lnew (t':=s.toks) (r.rep k.toNat) (by rw[vg,Nat.mul_comm];exact hz),rfl,q _ I.fresh⟩
end
section
variable {prog : Program}{w : World}{A : Around}{E : Value → Shared → Prop}{s : Shared}
end
section
variable {X : Cx}
end
end L2
namespace Att
open PySem PySem.W PySem.Calls PyProof.Rows
theorem j8 {P:Params}{h:Heap}:∀ (ns:List Int)(vs:List Value),WellAll P h vs (ns.map WData.int)→IntsAre vs ns:=by
 intro ns
 induction ns with
 | nil=>
  intro vs w
  rw[List.map_nil]at w
  cases w
  exact .nil
 | cons n ns ih=>
  intro vs w
  rw[List.map_cons]at w
  cases w with
  | cons a b=>
   cases a
   exact .cons _ _ (ih _ b)
theorem rN {l:OpenLaw}{n:Nat} (hn:l.most=some n) {P:Params}{h:Heap}{args:List WData}{vals:List Value}
  (hpre:l.row.toRowW.claim.pre args=true) (hwl:WellAll P h vals args):
  ∃ a vs ns,vals=[Value.ref a]∧args=[WData.list (ns.map WData.int)]∧h.get? a=some { cls:=.type "list",data:=.seq vs.toArray }∧IntsAre vs ns∧ns.length≤n:=by
 have hsh:WShape.hasAll [] args [.list .int]=true:=(pre_splitW hpre).1
 have hc:l.pre.holds [] { args:=args }=true:=(pre_splitW hpre).2
 obtain⟨d,r,rfl,h1,h2⟩:=hasAllW_cons hsh
 obtain rfl:=hasAllW_nil h2
 obtain⟨xs,rfl,h3⟩:=hasW_list h1
 obtain⟨ns,rfl⟩:=items_int h3
 have hlen:ns.length≤n:=by
  unfold OpenLaw.pre at hc
  have h4:(WTm.not (.lt (.lit (.int (n:Int))) (.len (.arg 0)))).holds [] { args:=[.list (ns.map .int)] }=true:=by
   have h4:=(holds_andW hc).1
   rw[hn]at h4
   exact h4
  have h5:=condW_of h4 (w_not (w_lt w_lit (w_len_list (w_arg rfl))))
  rw[List.length_map]at h5
  refine Nat.le_of_not_lt fun q=>?_
  have q':(n:Int)<((ns.length:Nat):Int):=by omega
  first
   | (rw[decide_eq_true q']at h5;exact absurd h5 (by decide))
   | (simp at h5;omega)
 cases hwl with
 | cons w1 w2=>
  cases w2
  cases w1 with
  | list ho hall=>exact⟨_,_,ns,rfl,rfl,ho,j8 ns _ hall,hlen⟩
theorem rV (l:OpenLaw)(args:List WData):l.row.toRowW.claim.post args (.bool true) args=true:=
 postW_of (r:=l.row.toRowW) (X:=(true==true))
  (show WShape.has [] (.bool true) .bool=true by first|rfl|decide|simp[WShape.has,WShape.arms,WShape.armsAll])
  (show (WTm.eq .res (.lit (.bool true))).value [] { args:=args,res:=some (.bool true),after:=args }=some (.bool (true==true)) from w_eq_bool (w_res rfl) w_lit) rfl
theorem attach_call {l:OpenLaw}{n:Nat}{q:Program}{loose:List Str}{XP:(Str→Option Value)→Heap→Prop}{YP:World→Heap→Prop}{d:DefRec}
  (hn:l.most=some n) (hdf:d.params.defaults=[])
  (call:∀ (w:World)(s₀ s₁:Shared)(mg mb:Str→Option Value)(fa:Addr)(o:Obj)(pm cd doc:Value)(a:Addr)(vs:List Value)(ns:List Int),
   Ground q loose [] XP w s₀ mg mb s₁.heap→YP w s₁.heap→
   s₁.heap.get? fa=some o→o.data=.func (docDef d.name d.params d.body d.scope pm cd doc)→s₁.heap.CodeRec cd d.name→mg d.name=some (.ref fa)→
   s₁.heap.get? a=some { cls:=.type "list",data:=.seq vs.toArray }→IntsAre vs ns→ns.length≤n→s₁.gens=#[]→
   codeAny (model l.prog w) callerA (.call (.ref fa) ⟨[.ref a],[]⟩) (fun r s'=>r=.ok (.ret (.bool true))∧OldK s₁.heap s'.heap∧s'.os=s₁.os∧AllBare s'.gens) s₁):
  WalkO q loose XP YP l.row.toRowW d [] (fun f vs=>PySem.call f vs):=by
 intro w s₀ s₁ mg mb G Y fa o pm cd doc dV kV ho hd hcd hD hmg hg args vals as hpre hlay hrd hwl hlo
 obtain rfl:dV=.none:=Dflts.none hD hdf
 obtain rfl:kV=.none:=Dflts.noKw hD
 obtain⟨a,vs,ns,rfl,rfl,hobj,hints,hlen⟩:=rN hn hpre hwl
 refine enter_call (codeAny_mono (call w s₀ s₁ mg mb fa o pm cd doc a vs ns G Y ho (fd_plain hd) hcd hmg hobj hints hlen hg) fun r s' hq=>?_)
 obtain⟨rfl,h2,h3,h4⟩:=hq
 exact⟨.inl ⟨.bool true,.bool true,[],rfl,fun _=>rfl,.bool true,rV l _,fun _=>⟨List.Pairwise.nil,fun _ hm=>(nomatch hm)⟩⟩,h2,h3,h4⟩
section
variable {prog : Program}{w : World}{A : Around}{E : Value → Shared → Prop}{s : Shared}{K : Frag}
end
end Att
namespace L2
open PySem PySem.Spec PyProof.Rows
theorem kO:∀ {vs:List Value}{ns:List Int},IntsAre vs ns→Vals (ns.map V.int) vs
 | _,_,.nil=>.nil
 | _,_,.cons n t h=>.cons ⟨t,rfl⟩ (kO h)
def Only (H:Hp):Prop:=∀ b,H b=none∨∃ o xs,H b=some (.frz o (.lst xs))
theorem u0 {P:Program}{w:World}{K:PySem.W.Frag}{mg mb:Str→Option Value}{CX:CXT}{k:Nat}{fa a:Addr}{fd:FuncData}{x:Str}{sp:Sp}{s₁:Shared}{vs:List Value}{ns:List Int}
  (KX:K.In s₁.heap) (hns:s₁.heap.Ns mainGlobals mg) (hb:s₁.heap.Ns builtinsNs mb) (hbb:∀ x:Str,x≠"__name__"→mb x=bootBuiltins x) (hlim:s₁.heap.NoLimit) (hg:s₁.gens=#[])
  (ha:s₁.heap.get? a=some { cls:=.type "list",data:=.seq vs.toArray }) (hi:IntsAre vs ns) (hl:ns.length≤sizeLine) (hr:Room k callerA)
  (F:∀ base:Heap,K.In base→base.Ns mainGlobals mg→FnOk P w K mg base CX k fa fd [x] sp) (hbind:∀ (s:Shared)(u:Value),BindsTo s fd ⟨[u],[]⟩ [(x,u)])
  (hsp:∀ H:Hp,Only H→SqL K H a (ns.map V.int)→sp [.ref a] H (fun v _=>v=.bl true) fun _ _ _=>False)
  (hCX:∀ H e s',CX [] H s₁ (fun _ _ _=>False) e s'→False):
  codeAny (model P w) callerA (.call (.ref fa) ⟨[.ref a],[]⟩) (fun r s'=>r=.ok (.ret (.bool true))∧OldK s₁.heap s'.heap∧s'.os=s₁.os∧AllBare s'.gens) s₁:=by
 have rv:=kO hi
 have lenV:=hi.length
 have core:∀ H:Hp,Only H→SqL K H a (ns.map V.int)→HOk P w H s₁.heap→(∀ b,H b≠none→b=a)→(H a≠none→K.lookup a=none)→
   codeAny (model P w) callerA (.call (.ref fa) ⟨[.ref a],[]⟩) (fun r s'=>r=.ok (.ret (.bool true))∧OldK s₁.heap s'.heap∧s'.os=s₁.os∧AllBare s'.gens) s₁:=by
  intro H hO hS hok hA hK
  have base_of:∀ {b:Addr}{o:Obj},s₁.heap.get? b=some o→H b=none→(mI s₁.heap H).get? b=some o:=fun e n=>u9 e n
  have noA:∀ {b:Addr}{o:Obj}{es:Array DictEntry}{ep:Nat},s₁.heap.get? b=some o→o.data=.dict es ep→H b=none:=fun {b o es ep} e d=>by
   cases q:H b with
   | none=>rfl
   | some u=>
    have e':b=a:=hA b (by rw[q];simp)
    subst e'
    rw[ha]at e;cases e
    have d':Data.seq vs.toArray _=Data.dict es ep:=d
    cases d'
  have nsK:∀ {b:Addr}{m:Str→Option Value},s₁.heap.Ns b m→(mI s₁.heap H).Ns b m:=fun {b m} ⟨o,es,ep,e,d,r⟩=>⟨o,es,ep,base_of e (noA e d),d,r⟩
  have hKb:K.In (mI s₁.heap H):=fun b o e=>base_of (KX b o e) (by
   cases q:H b with
   | none=>rfl
   | some u=>
    have e':b=a:=hA b (by rw[q];simp)
    subst e'
    rw[hK (by rw[q];simp)]at e;cases e)
  have hM:Mod K mg (mI s₁.heap H):=⟨hKb,nsK hns,⟨mb,nsK hb,hbb⟩,let ⟨mc,h1,h2⟩:=hlim;⟨mc,nsK h1,h2⟩⟩
  have e0:Env0 P w K mg (mI s₁.heap H) callerA [] s₁ H:=⟨rfl,hM,fun b o e=>ve e,Nat.le_of_eq (sA _ _),trivial,fun b hb=>absurd (show b∈([]:List Addr) from hb) (by simp),hok,.of_eq hg⟩
  refine codeAny_mono ((F _ hKb (nsK hns)).run callerA [] s₁ H ⟨[.ref a],[]⟩ [.ref a] [.ref a] _ _ hr e0 (hbind s₁ (.ref a)) (.cons rfl .nil) (hsp H hO hS)) fun r s' h=>?_
  cases r with
  | error e=>exact (hCX H e s' h).elim
  | ok fl=>
   cases fl with
   | next=>exact False.elim h
   | brk=>exact False.elim h
   | cont=>exact False.elim h
   | ret u=>
    obtain⟨v,H',os,bare,un,hok',r',q⟩:=h
    have q':v=.bl true:=q
    subst q'
    obtain rfl:u=Value.bool true:=r'
    refine⟨rfl,OldK.of_keep fun b o e=>?_,os,bare⟩
    cases q:H b with
    | none=>exact un.keep b o e q (by intro z;exact absurd (show b∈([]:List Addr) from z) (by simp)) (by simp)
    | some u=>
     rcases hO b with z|⟨ob,xs,z⟩
     ·rw[q]at z;cases z
     ·have z2:=un.frzs b ob _ z
      obtain⟨e1,_⟩:=hok b _ z
      obtain⟨e2,_⟩:=hok' b _ z2
      rw[e]at e1;cases e1
      exact e2
 cases hk:K.lookup a with
 | some o=>
  have e:=KX a o hk
  rw[ha]at e
  cases e
  refine core (fun _=>none) (fun _=>.inl rfl) (.inr ⟨_,vs.toArray,_,hk,rfl,rfl,rfl,by rw[List.size_toArray,lenV];exact hl,by simpa using rv⟩) (fun b u z=>by have z':(none:Option HO)=some u:=z;cases z') (fun b z=>absurd rfl z) fun z=>absurd rfl z
 | none=>
  refine core (fun b=>if b=a then some (.frz { cls:=.type "list",data:=.seq vs.toArray } (.lst (ns.map V.int))) else none) (fun b=>?_) (.inl (.inr ⟨{ cls:=.type "list",data:=.seq vs.toArray },if_pos rfl⟩)) (fun b u z=>?_) (fun b z=>?_) fun _=>hk
  ·by_cases hb:b=a
   ·exact .inr ⟨_,_,if_pos hb⟩
   ·exact .inl (if_neg hb)
  ·by_cases hb:b=a
   ·have z':=(if_pos hb).symm.trans z
    cases z'
    subst hb
    exact⟨ha,by rw[List.length_map];exact hl,vs,_,rv,ha⟩
   ·have z':=(if_neg hb).symm.trans z
    cases z'
  ·by_cases hb:b=a
   ·exact hb
   ·exact absurd (if_neg hb) z
theorem walk_of {l:PySem.W.OpenLaw}{n k:Nat}{q:Program}{loose:List Str}{XP:(Str→Option Value)→Heap→Prop}{YP:World→Heap→Prop}{d:DefRec}{K:Params→PySem.W.Frag}{CX:World→CXT}{sp:World→Sp}{x:Str}
  (hn:l.most=some n) (hn2:n≤sizeLine) (hdf:d.params.defaults=[]) (hr:Room k callerA)
  (hY:∀ (w:World)(h:Heap),YP w h→(K w.params).In h)
  (F:∀ (w:World)(mg:Str→Option Value)(fa:Addr)(h:Heap),(K w.params).In h→h.Ns mainGlobals mg→mg d.name=some (.ref fa)→
   ∃ fd:FuncData,(∀ (s:Shared)(u:Value),BindsTo s fd ⟨[u],[]⟩ [(x,u)])∧
    ∀ base:Heap,(K w.params).In base→base.Ns mainGlobals mg→FnOk l.prog w (K w.params) mg base (CX w) k fa fd [x] (sp w))
  (hsp:∀ (w:World)(H:Hp)(a:Addr)(ns:List Int),ns.length≤n→Only H→SqL (K w.params) H a (ns.map V.int)→sp w [.ref a] H (fun v _=>v=.bl true) fun _ _ _=>False)
  (hCX:∀ (w:World)(H:Hp)(s:Shared)(e:Value)(s':Shared),CX w [] H s (fun _ _ _=>False) e s'→False):
  PySem.W.WalkO q loose XP YP l.row.toRowW d [] (fun f vs=>PySem.call f vs):=by
 refine Att.attach_call hn hdf fun w s₀ s₁ mg mb fa o pm cd doc a vs ns G Y ho hd hcd hmg hobj hints hlen hg=>?_
 have KX:=hY w _ Y
 obtain⟨fd,hb,hF⟩:=F w mg fa _ KX G.T.g hmg
 exact u0 KX G.T.g G.T.b G.T.builtins G.T.nolimit hg hobj hints (Nat.le_trans hlen hn2) hr hF hb (fun H hO hS=>hsp w H a ns hlen hO hS) fun H e s'=>hCX w H s₁ e s'
def aP (s:Stmt)(j:Nat):Stmt:=match s with
 | .ClassDef _ _ _ body _ _ _ _ _ _ _=>body.getD j (.Pass ⟨0,0,0,0⟩)
 | _=>.Pass ⟨0,0,0,0⟩
def aQ (s:Stmt):Arguments:=match s with
 | .FunctionDef _ a _ _ _ _ _ _ _ _=>a
 | _=>{ posonlyargs:=[],args:=[],vararg:=none,kwonlyargs:=[],kw_defaults:=[],kwarg:=none,defaults:=[] }
def aJ (s:Stmt):List Stmt:=match s with
 | .FunctionDef _ _ b _ _ _ _ _ _ _=>b
 | _=>[]
def ah (s:Stmt):Scope:=match s with
 | .FunctionDef _ _ _ _ _ _ sc _ _ _=>sc
 | _=>{ kind:=.function,names:=[],isGenerator:=false,isCoroutine:=false }
abbrev CX0:CXT:=fun _ _ _ _ _ _=>False
abbrev E0:XK:=fun _ _ _=>False
theorem l7 {X:Cx}:fC CX0 X E0:=fun _ _ _ _ _ _ _ h=>h.elim
structure Fun (K : PySem.W.Frag) (x qual : Str) (st : Stmt) (f : Addr) (fd : FuncData) : Prop where
  ex : ∃ (oc : Value) (od : Option Addr) (kV doc pm : Value) (an : Option Addr) (cdv ct : Value) (osl : Array (Option Value)),
    fd = PySem.W.fnOf x qual (aQ st) (aJ st) (ah st) .none kV doc pm an cdv ct ∧ K.lookup f = some ⟨oc, od, .func fd, osl⟩ ∧ PySem.W.codeIn K cdv qual = true
  kp : PySem.W.keepIn K (.ref f) = true
section
variable {P : Program}{w : World}{K : PySem.W.Frag}{mg : Str → Option Value}{base : Heap}
theorem Fun.ok {x qual:Str}{st:Stmt}{f:Addr}{fd:FuncData}{N ps:List Str}{k:Nat}{sp:Sp} (F:Fun K x qual st f fd) (S:am N ps (ah st)) (len:∀ vs H Q E,sp vs H Q E→vs.length=ps.length)
  (hbody:∀ (cdv:Value)(A:Around)(outer:List Env)(s:Shared)(H:Hp)(vs:List V)(Q:VK)(E:XK),Room k (A.deeper (envOfC qual (ah st) s.heap.objs.size f cdv))→sp vs H Q E→
   ∃ t,PSs (j9 CX0 P w K mg base N qual (ah st) f cdv A outer s H E).nox (aJ st) t∧t { nx:=fun _ H'=>Q .non H',rt:=Q } (start N vs) H):FnOk P w K mg base CX0 (k+1) f fd ps sp:=by
 obtain⟨oc,od,kV,doc,pm,an,cdv,ct,osl,rfl,lk,hcd⟩:=F.ex
 refine uc lk hcd S len fun A outer s H vs Q E hr hsp=>?_
 obtain⟨t,h,q⟩:=hbody cdv A outer s H vs Q E hr hsp
 exact⟨t,h.nox,q⟩
theorem Fun.binds {x qual:Str}{st:Stmt}{f:Addr}{fd:FuncData}{ps:List Str} (F:Fun K x qual st f fd)
  (h:∀ (kV doc pm:Value)(an:Option Addr)(cdv ct:Value)(us:List Value),us.length=ps.length→bindArgs (PySem.W.fnOf x qual (aQ st) (aJ st) (ah st) .none kV doc pm an cdv ct) ⟨us,[]⟩=pure (ps.zip us)):Binds K fd ps []:=by
 obtain⟨oc,od,kV,doc,pm,an,cdv,ct,osl,rfl,lk,hcd⟩:=F.ex
 exact .all (h kV doc pm an cdv ct)
theorem mJ {x qual:Str}{st:Stmt}{f:Addr}{oc:Value}{od an:Option Addr}{osl:Array (Option Value)}{kV doc pm cdv ct:Value} (l:K.lookup f=some ⟨oc,od,.func (PySem.W.fnOf x qual (aQ st) (aJ st) (ah st) .none kV doc pm an cdv ct),osl⟩)
  (c:PySem.W.codeIn K cdv qual=true) (k:PySem.W.keepIn K (.ref f)=true):Fun K x qual st f (PySem.W.fnOf x qual (aQ st) (aJ st) (ah st) .none kV doc pm an cdv ct):=⟨⟨oc,od,kV,doc,pm,an,cdv,ct,osl,rfl,l,c⟩,k⟩
end
theorem b7 {A:Around}{k:Nat} (hr:Room k A):A.units+1<cLine:=Nat.lt_of_le_of_lt (Nat.add_le_add_left (by decide:1≤64) _) hr.units
section
variable {X : Cx}
theorem pv (i:Nat){x:Str}{pos:Pos} (hN:X.N[i]?=some x:=by rfl) (hv:Vis X.env.scope x:=by first|exact Or.inl rfl|exact Or.inr (Or.inl rfl)|exact Or.inr (Or.inr rfl)) (hd:(x==("__debug__":Str))=false:=by decide)
  (hcd:(x==("__classdict__":Str))=false:=by decide):PE X (.Name x pos) (gf i):=pe_var hN hv hd hcd
end
theorem bv {A B:Prop}(h:B):if false=true then A else B:=by
 rw[if_neg Bool.false_ne_true]
 exact h
theorem ci {A B:Prop}(h:A):if true=true then A else B:=by
 rw[if_pos rfl]
 exact h
theorem bT {c A B:Prop}[Decidable c](h1:c→A)(h2:¬ c→B):if c then A else B:=by
 by_cases h:c
 ·rw[if_pos h]
  exact h1 h
 ·rw[if_neg h]
  exact h2 h
theorem iteNS {c A B:Prop}[Decidable c](hc:c)(h:B):if (!decide c)=true then A else B:=by
 rw[decide_eq_true hc]
 exact bv h
def Same (H H':Hp):Prop:=∀ b o,H b=some o→H' b=some o
theorem Same.refl (H:Hp):Same H H:=fun _ _ h=>h
theorem Same.trans {H H1 H2:Hp}(a:Same H H1)(b:Same H1 H2):Same H H2:=fun c o h=>b c o (a c o h)
theorem Same.free {H H':Hp}(e:Same H H'){l:Addr}(h:H' l=Option.none):H l=Option.none:=by
 cases q:H l with
 | none=>rfl
 | some o=>
  rw[e l o q]at h
  cases h
theorem Same.seq {K:PySem.W.Frag}{H H':Hp}{a:Addr}{xs:List V} (e:Same H H') (h:SqL K H a xs):SqL K H' a xs:=by
 rcases h with (h|⟨o,h⟩)|h
 ·exact .inl (.inl (e _ _ h))
 ·exact .inl (.inr ⟨o,e _ _ h⟩)
 ·exact .inr h
def Itz (K:PySem.W.Frag)(a b:Addr):It:=
 ⟨fun i H=>∃ xs ys x y,SqL K H a xs∧SqL K H b ys∧xs[i]?=some x∧ys[i]?=some y,
  fun i H v H'=>∃ T,H T=none∧v=.ref T∧∃ x y,(∀ xs,SqL K H a xs→xs[i]?=some x)∧(∀ ys,SqL K H b ys→ys[i]?=some y)∧H'=upd H T (.tup [x,y]),
  fun i H=>∃ xs ys,SqL K H a xs∧SqL K H b ys∧(xs.length≤i∨ys.length≤i)⟩
theorem Inv.turnedN {X:Cx}{pins:List (Addr×Obj)}{σ:St}{H:Hp}{s:Shared}{h':Heap}{t':Nat}{ch:List Addr} (I:Inv X pins σ H s) (hf:∀ b∈ch,jb X pins H b)
  (k:∀ b o,b∉ch→s.heap.get? b=some o→h'.get? b=some o):Inv X pins σ H { s with heap:=h',toks:=t' }:=by
 refine I.step (g':=s.gens) (d':=s.drawn) (ch:=ch) (fun b hb=>⟨(hf b hb).2.2.2.1,(hf b hb).2.1,(hf b hb).2.2.2.2.1,(hf b hb).2.2.2.2.2⟩) (fun b o _ _ hc e _=>k b o hc e) (fun b o _ _ hc e _=>⟨o.slots,k b o hc e⟩) (fun _ _ _ _ n=>n)
  (fun b o hc e=>⟨o,k b o hc e⟩) (fun _ _ e=>e) (fun _ _ _ e=>e) (fun b ps e=>⟨#[],by rw[e];simp⟩) (fun m hm=>?_) (fun b u e=>?_) I.bare
 ·obtain⟨o,es,ep,ho,r⟩:=hm
  exact⟨o,es,ep,k _ o (fun z=>(hf _ z).2.1 rfl) ho,r⟩
 ·refine (I.hok b u e).stay (fun c v hc q=>k c v (fun z=>?_) q) (fun _ q=>q) fun _ _ q=>q
  have n:=(hf c z).1
  rcases hc with w|w
  ·rw[w,e]at n;cases n
  ·rw[w]at n;cases n
theorem Inv.track {X:Cx}{pins:List (Addr×Obj)}{σ:St}{H:Hp}{s:Shared}{T:Addr}{o:HO} (I:Inv X pins σ H s) (hf:jb X pins H T) (hs:X.s₀.heap.objs.size≤T) (new:ObjOk X.prog X.w (upd H T o) s.heap T o):Inv X pins σ (upd H T o) s:=by
 have hn:=hf.1
 have:=I.step (h':=s.heap) (H':=upd H T o) (g':=s.gens) (d':=s.drawn) (t':=s.toks) (ch:=[T]) (fun b hb=>by
   have e:b=T:=by simpa using hb
   subst e
   exact⟨.inr hs,hf.2.1,hf.2.2.2.2.1,hf.2.2.2.2.2⟩) (fun b o _ _ _ e _=>e) (fun b o _ _ _ e _=>⟨o.slots,e⟩) (fun b o hb _ n=>by rw[aa (by simpa using hb)];exact n)
  (fun b o _ e=>⟨o,e⟩) (fun b xs e=>by rw[aa (ag e hn)];exact e) (fun b ob xs e=>by rw[aa (ag e hn)];exact e) (fun b ps e=>⟨#[],by rw[aa (ag e hn),e];simp⟩) (fun m hm=>hm)
  (fun b u e=>by
   by_cases hb:b=T
   ·subst hb;rw[a9]at e;cases e;exact new
   ·rw[aa hb]at e
    exact (I.hok b u e).stay (fun c v _ q=>q) (fun c q=>by rw[aa (ag q hn)];exact q) fun c xs q=>by rw[aa (ag q hn)];exact q) I.bare
 exact this
theorem cI {X:Cx}{pins:List (Addr×Obj)}{σ:St}{H:Hp}{s:Shared}{a b:Addr}{xs:List V} (I:Inv X pins σ H s) (h:SqL X.K H a xs) (hf:jb X pins H b):a≠b:=by
 rintro rfl
 rcases h with (h|⟨o,h⟩)|⟨o,its,n,hk,_⟩
 ·rw[hf.1]at h;cases h
 ·rw[hf.1]at h;cases h
 ·have e:=I.ok.mod.kin a o hk
  rcases hf.2.2.2.1 with z|z
  ·exact I.ok.noex a o e z
  ·exact absurd (Nat.lt_of_lt_of_le (Heap.lt_size e) (Nat.le_trans I.ok.bsz z)) (Nat.lt_irrefl _)
def tnZip (z TI TO i1 i2 a b:Addr)(i:Nat)(h:Heap):Prop:=IsZip h z TI TO .none∧IsPair h TI (.ref i1) (.ref i2)∧(∃ u v,IsPair h TO u v)∧h.IsListIter i1 a i∧h.IsListIter i2 b i
structure ZipFp (z TI TO i1 i2 : Addr) : Prop where
  TIz : TI ≠ z
  TOz : TO ≠ z
  i1z : i1 ≠ z
  i2z : i2 ≠ z
  TITO : TI ≠ TO
  TIi1 : TI ≠ i1
  TIi2 : TI ≠ i2
  TOi1 : TO ≠ i1
  TOi2 : TO ≠ i2
  i12 : i1 ≠ i2
theorem sR {P:Program}{w:World}{K:PySem.W.Frag}{elts:List Expr}{x1:Nat}{tpos:Pos} (a b z TI TO i1 i2:Addr) (D:ZipFp z TI TO i1 i2):
  p9 P w K (.Tuple elts x1 tpos) (Itz K a b) [z,TI,TO,i1,i2] z (tnZip z TI TO i1 i2 a b) where
 mem:=by simp
 obj:=fun i h st c hc=>by
  obtain⟨h1,h2,⟨u,v,h3⟩,⟨o4,e4,c4,d4⟩,⟨o5,e5,c5,d5⟩⟩:=st
  simp only[List.mem_cons,List.not_mem_nil,or_false]at hc
  rcases hc with rfl|rfl|rfl|rfl|rfl
  ·exact⟨_,h1,fun v z=>by cases z⟩
  ·exact⟨_,h2,fun v z=>by cases z⟩
  ·exact⟨_,h3,fun v z=>by cases z⟩
  ·exact⟨_,e4,fun v z=>by rw[d4]at z;cases z⟩
  ·exact⟨_,e5,fun v z=>by rw[d5]at z;cases z⟩
 keep:=fun i h h' st k=>by
  obtain⟨h1,h2,⟨u,v,h3⟩,h4,h5⟩:=st
  exact⟨k z (by simp) _ h1,k TI (by simp) _ h2,⟨u,v,k TO (by simp) _ h3⟩,h4.at fun o e=>k i1 (by simp) o e,h5.at fun o e=>k i2 (by simp) o e⟩
 item:=by
  intro X hP hw hK hc i pins s σ H E I hf st hg
  subst hP hw hK
  obtain⟨xs,ys,x,y,hx,hy,ex,ey⟩:=hg
  obtain⟨h1,h2,⟨u,v,h3⟩,h4,h5⟩:=st
  obtain⟨its,rv,p,hz⟩:=I.list hx
  obtain⟨its2,rv2,p2,hz2⟩:=I.list hy
  obtain⟨w1,ew1,r1⟩:=rv.get ex
  obtain⟨w2,ew2,r2⟩:=rv2.get ey
  have ap:ZipApart z TI TO i1 i2 a b:=⟨D.TIz,D.TOz,D.i1z,D.i2z,D.TITO,D.TIi1,D.TIi2,D.TOi1,D.TOi2,D.i12,
   cI I hx (hf z (by simp)),cI I hx (hf TO (by simp)),cI I hx (hf i1 (by simp)),cI I hx (hf i2 (by simp)),cI I hy (hf z (by simp)),cI I hy (hf TO (by simp)),cI I hy (hf i1 (by simp)),cI I hy (hf i2 (by simp))⟩
  refine wpAny_pyNext_zip_item ap h1 h2 h3 h4 h5 p.isList p2.isList (x:=w1) (y:=w2) (by simpa using ew1) (by simpa using ew2) fun h' a1 a2 a3 a4 a5 a6 a7=>?_
  refine⟨_,rfl,wpAny_letOwnedTupleGo_zip a1 fun h'' b1 sb=>?_⟩
  have hT:H s.heap.objs.size=none:=I.hok.fresh (Nat.le_refl _)
  have zne:∀ c∈[z,TI,TO,i1,i2],c≠s.heap.objs.size:=fun c hc e=>by
   have:∃ o,s.heap.get? c=some o:=by
    simp only[List.mem_cons,List.not_mem_nil,or_false]at hc
    obtain⟨o4,e4,_⟩:=h4
    obtain⟨o5,e5,_⟩:=h5
    rcases hc with rfl|rfl|rfl|rfl|rfl
    ·exact⟨_,h1⟩
    ·exact⟨_,h2⟩
    ·exact⟨_,h3⟩
    ·exact⟨_,e4⟩
    ·exact⟨_,e5⟩
   obtain⟨o,q⟩:=this
   exact absurd (Heap.lt_size q) (by rw[e];exact Nat.lt_irrefl _)
  have kk:∀ c o,c∉[z,TI,TO,i1,i2]→s.heap.get? c=some o→h''.get? c=some o:=fun c o hc e=>by
   simp only[List.mem_cons,List.not_mem_nil,or_false,not_or]at hc
   exact sb.extBut _ _ hc.1 (a7 c o hc.1 hc.2.2.1 hc.2.2.2.1 hc.2.2.2.2 e)
  have I1:Inv X pins σ H { s with heap:=h'' }:=I.turnedN (t':=s.toks) (ch:=[z,TI,TO,i1,i2]) hf kk
  have I2:Inv X pins σ (upd H s.heap.objs.size (.tup [x,y])) { s with heap:=h'' }:=by
   refine I1.track (I.fpOk (Nat.le_refl _) hT) I.sz ⟨by show 2≤sizeLine;decide,[w1,w2],.cons r1 (.cons r2 .nil),?_⟩
   exact⟨_,sb.extBut _ _ (Ne.symm (zne z (by simp))) a5,rfl,_,rfl⟩
  refine⟨.ref s.heap.objs.size,_,I2,rfl,⟨_,hT,rfl,x,y,fun xs' hx'=>by rw[I.list_inj hx' hx];exact ex,fun ys' hy'=>by rw[I.list_inj hy' hy];exact ey,rfl⟩,?_,fun c hc=>?_⟩
  ·exact⟨b1,sb.extBut _ _ D.TIz (a7 TI _ D.TIz D.TITO D.TIi1 D.TIi2 h2),⟨_,_,sb.extBut _ _ D.TOz a2⟩,a3.extBut sb.extBut D.i1z,a4.extBut sb.extBut D.i2z⟩
  ·rw[aa (zne c hc)]
   exact (hf c hc).1
 done:=by
  intro X hP hw hK hc i pins s σ H E I hf st hg
  subst hP hw hK
  obtain⟨xs,ys,hx,hy,hl⟩:=hg
  obtain⟨h1,h2,⟨u,v,h3⟩,h4,h5⟩:=st
  obtain⟨its,rv,p,hz⟩:=I.list hx
  obtain⟨its2,rv2,p2,hz2⟩:=I.list hy
  have l1:=rv.length
  have l2:=rv2.length
  have ap:ZipApart z TI TO i1 i2 a b:=⟨D.TIz,D.TOz,D.i1z,D.i2z,D.TITO,D.TIi1,D.TIi2,D.TOi1,D.TOi2,D.i12,
   cI I hx (hf z (by simp)),cI I hx (hf TO (by simp)),cI I hx (hf i1 (by simp)),cI I hx (hf i2 (by simp)),cI I hy (hf z (by simp)),cI I hy (hf TO (by simp)),cI I hy (hf i1 (by simp)),cI I hy (hf i2 (by simp))⟩
  refine wpAny_pyNext_zip_end (I.ok.hd hc) ap h1 h2 h3 h4 h5 p.isList p2.isList ?_ fun h' kk=>⟨rfl,I.turnedN (t':=s.toks) (ch:=[z,TI,TO,i1,i2]) hf fun c o hc e=>?_⟩
  ·rcases hl with q|q
   ·exact .inl (by simp;omega)
   ·exact .inr (by simp;omega)
  ·simp only[List.mem_cons,List.not_mem_nil,or_false,not_or]at hc
   exact kk c o hc.1 hc.2.2.1 hc.2.2.2.1 hc.2.2.2.2 e
 self:=fun _ _ _ _ _ st h=>wpAny_pyIter_zip st.1 h
theorem ut:bootBuiltins "zip"=some (.type "zip"):=by decide +kernel
def iZip (K:PySem.W.Frag)(ta:TA):TI:=fun σ H R=>ta σ H fun vs H1=>∃ a b,vs=[.ref a,.ref b]∧(∃ xs,SqL K H1 a xs)∧(∃ ys,SqL K H1 b ys)∧R (Itz K a b) H1
theorem pi_zip {X:Cx}{elts:List Expr}{x1:Nat}{tpos:Pos}{e1 e2:Expr}{ta:TA}{p pos:Pos} (hg:Gl X "zip") (hm:X.mg "zip"=none) (ha:PA X [e1,e2] ta)
  (hs:starEach [e1,e2] X.env=[(false,eval e1 X.env),(false,eval e2 X.env)]:=by rfl) (hs2:starEach [e2] X.env=[(false,eval e2 X.env)]:=by rfl):
  PI X (.Tuple elts x1 tpos) (.Call (.Name "zip" p) [e1,e2] [] pos) (iZip X.K ta):=by
 intro pins s σ H R I h
 refine Call_ (iE I hg hm ut (PyProof.Rows.callWith_type1 (thn (ha pos pins s σ H _ I h) fun us s1 ⟨vs,H1,I1,r1,q1⟩=>?_) (by rw[hs,hs2]) (by rw[hs2];rfl)))
 obtain⟨a,b,e,⟨xs,hx⟩,⟨ys,hy⟩,q⟩:=q1
 subst e
 cases r1 with
 | cons r rr=>
  cases rr with
  | cons r' rr=>
   cases rr
   cases r
   cases r'
   obtain⟨its,rv,p1,hz⟩:=I1.list hx
   obtain⟨its2,rv2,p2,hz2⟩:=I1.list hy
   refine call_zip_2 p1.isList p2.isList fun h' a1 a2 a3 a4 a5 a6 a7=>?_
   refine wpAny_pyIter_zip a1 ?_
   have I2:Inv X pins σ H1 { s1 with heap:=h' }:=I1.kept (t':=s1.toks) a7
   refine⟨_,[s1.heap.objs.size+4,s1.heap.objs.size+2,s1.heap.objs.size+3,s1.heap.objs.size,s1.heap.objs.size+1],_,_,H1,rfl,I2,sR a b _ _ _ _ _ ⟨?_,?_,?_,?_,?_,?_,?_,?_,?_,?_⟩,⟨a1,a2,⟨_,_,a3⟩,a4,a5⟩,fun c hc=>?_,q⟩
   all_goals try (intro z;have z':@Eq Nat _ _:=z;omega)
   have le:@LE.le Nat _ s1.heap.objs.size c:=by
    simp only[List.mem_cons,List.not_mem_nil,or_false]at hc
    rcases hc with rfl|rfl|rfl|rfl|rfl <;> omega
   have:=I1.fpOk (H':=H1) (b:=c) le (I1.hok.fresh le)
   exact this
theorem vt {K:PySem.W.Frag}{a b:Addr}{xs ys:List V}{g:TG}{tb:TS}{D:fX}{σ:St}{H:Hp} (Pv:Nat→St→Hp→Prop) (h0:Pv 0 σ H) (hl:∀ i σ H,i≤min xs.length ys.length→Pv i σ H→SqL K H a xs∧SqL K H b ys)
  (hs:∀ i x y T σ H,xs[i]?=some x→ys[i]?=some y→Pv i σ H→H T=none→g (.ref T) σ (upd H T (.tup [x,y])) fun σ2 H2=>tb { D with nx:=Pv (i+1),ct:=Pv (i+1),bk:=D.nx } σ2 H2) (hd:∀ σ H,Pv (min xs.length ys.length) σ H→D.nx σ H):
  ∃ W:Nat→Nat→St→Hp→Prop,(∃ m,W 0 m σ H)∧∀ i m σ H,W i m σ H→
   ((Itz K a b).stop i H∧D.nx σ H)∨((Itz K a b).go i H∧∃ N:St→Hp→Prop,(∀ σ' H',N σ' H'→∃ m',m'<m∧W (i+1) m' σ' H')∧∀ x H',(Itz K a b).yld i H x H'→g x σ H' fun σ2 H2=>tb { D with nx:=N,ct:=N,bk:=D.nx } σ2 H2):=by
 refine⟨fun i m σ H=>m=min xs.length ys.length - i∧i≤min xs.length ys.length∧Pv i σ H,⟨_,rfl,Nat.zero_le _,h0⟩,?_⟩
 rintro i m σ H ⟨rfl,hi,p⟩
 obtain⟨q1,q2⟩:=hl i σ H hi p
 by_cases hlt:i<min xs.length ys.length
 ·have l1:i<xs.length:=by omega
  have l2:i<ys.length:=by omega
  refine .inr ⟨⟨xs,ys,xs[i],ys[i],q1,q2,by simp[l1],by simp[l2]⟩,Pv (i+1),fun σ' H' p'=>⟨_,?_,rfl,hlt,p'⟩,fun x H' yl=>?_⟩
  ·omega
  ·obtain⟨T,hT,rfl,x,y,ex,ey,rfl⟩:=yl
   exact hs i x y T σ H (ex xs q1) (ey ys q2) p hT
 ·have e:i=min xs.length ys.length:=by omega
  subst e
  exact .inl ⟨⟨xs,ys,q1,q2,by omega⟩,hd σ H p⟩
abbrev noX:Value→Shared→Prop:=fun _ _=>False
section
variable {prog : Program}{w : World}{A : Around}{R : Result → Shared → Prop}{s : Shared}
theorem mO {elt target iter:Expr}{ifs:List Expr}{scope:Scope}{pos:Pos}{it acc:Value}{env:Env} (I:Nat→Shared→Prop)
  (turn:∀ n s,I n s→wpAny (model prog w) A (pyNext it) (fun r s₁=>match r with
   | none=>R (.ok .next) s₁
   | some v=>wpAny (model prog w) A (letOwnedTupleGo target it v) (fun _ s₂=>wpAny (model prog w) A (assign target env v) (fun _ s₃=>
     wpAny (model prog w) A (forIn ifs true fun c r=>if r=true then do let ok ← isTrue c env (eval c env);pure (ForInStep.yield ok) else pure (ForInStep.yield r)) (fun ok s₄=>
      if ok=true then wpAny (model prog w) A (eval elt env) (fun x s₅=>wpAny (model prog w) A (call (.builtin "list.append") [acc,x]) (fun _ s₆=>∃ m,m<n∧I m s₆) noX s₅) noX s₄
      else ∃ m,m<n∧I m s₄) noX s₃) noX s₂) noX s₁) noX s)
  (n:Nat) (h:I n s):codeAny (model prog w) A (.compLoop (.ListComp elt [⟨target,iter,ifs,0⟩] scope pos) 0 it acc env) R s:=by
 refine codeAny_loop rfl I (fun n s hI=>?_) n h
 show wpAny _ A ((compTurn (.ListComp elt [⟨target,iter,ifs,0⟩] scope pos) 0 it acc env).onRaise (fun x=>do noteFrame x env;theTreesLotGoes x)) _ _ s
 refine wpAny_noted ?_
 rw[compTurn_list]
 refine wpAny_bind (wpAny_standAt (wpAny_bind (wpAny_mono (turn n s hI) (fun r s₁ h₁=>?_) fun _ _ h'=>h'.elim)))
 cases r with
 | none=>exact wpAny_pure h₁
 | some v=>
  refine wpAny_bind (wpAny_mono h₁ (fun _ s₂ h₂=>?_) fun _ _ h'=>h'.elim)
  refine wpAny_bind (wpAny_mono h₂ (fun _ s₃ h₃=>wpAny_bind (wpAny_mono h₃ (fun ok s₄ h₄=>?_) fun _ _ h'=>h'.elim)) fun _ _ h'=>h'.elim)
  cases ok with
  | false=>exact wpAny_pure ⟨rfl,h₄⟩
  | true=>
   exact wpAny_bind (wpAny_bind (wpAny_mono h₄ (fun x s₅ h₅=>wpAny_bind (wpAny_mono h₅ (fun _ s₆ h₆=>wpAny_pure (wpAny_pure ⟨rfl,h₆⟩)) fun _ _ h'=>h'.elim)) fun _ _ h'=>h'.elim))
end
theorem nY {M:Model}{A:Around}{E:Value→Shared→Prop}{s:Shared}{scope:Scope}{globals:Addr}{cl:List (Str×Addr)}{qual:Str}{env:Env}{Q:Env→Shared→Prop}
  (h:Q (newEnv scope s.heap.objs.size globals (cellsFrom (s.heap.objs.size+1) scope.names cl) qual none .none (some env) builtinsNs) { s with heap:=pushCells (s.heap.push { cls:=.type "dict",data:=.dict #[] }) scope.names }):
  wpAny M A (newFunctionEnv scope globals cl [] qual none .none (some env)) Q E s:=by
 simp only[newFunctionEnv,Option.isSome_some,if_true]
 refine wpAny_bind (wpAny_alloc ?_)
 refine wpAny_bind (wpAny_layCells _ (fun name kind cells=>by cases hkc:kind==NameKind.cell <;> simp[hkc]) _ _ _ _ ?_)
 rw[show ({ s with heap:=s.heap.push { cls:=.type "dict",data:=.dict #[] } }:Shared).heap.objs.size=s.heap.objs.size+1 from Heap.size_push ..]
 refine wpAny_bind ?_
 rw[List.forIn_nil]
 exact wpAny_pure (wpAny_pure h)
theorem gO {env:Env}(f:Str×NameKind→List (Str×Addr)→Sem (ForInStep (List (Str×Addr))))
  (hf:∀ name kind cs,f (name,kind) cs=if kind==.free then (do let a ← cellOf env name;pure (.yield ((name,a)::cs))) else pure (.yield cs)):
  ∀ (names:List (Str×NameKind))(cs:List (Str×Addr)),(∀ x∈names,x.2=.free→∃ c,env.cells.lookup x.1=some c)→
   ∃ cl,forIn names cs f=pure cl∧(∀ p∈cl,p∈cs∨env.cells.lookup p.1=some p.2)∧(∀ p∈cs,p∈cl)∧∀ x∈names,x.2=.free→∃ c,(x.1,c)∈cl
 | [],cs,_=>⟨cs,by rw[List.forIn_nil],fun _ h=>.inl h,fun _ h=>h,fun _ h=>nomatch h⟩
 | (name,kind)::r,cs,hc=>by
  have hr:∀ x∈r,x.2=.free→∃ c,env.cells.lookup x.1=some c:=fun x hx=>hc x (List.mem_cons_of_mem _ hx)
  by_cases hk:kind=.free
  ·subst hk
   obtain⟨c,e⟩:=hc (name,.free) List.mem_cons_self rfl
   obtain⟨cl,h1,h2,h3,h4⟩:=gO f hf r ((name,c)::cs) hr
   refine⟨cl,?_,fun p hp=>?_,fun p hp=>h3 p (List.mem_cons_of_mem _ hp),fun x hx hf'=>?_⟩
   ·rw[List.forIn_cons,hf]
    show ((if (NameKind.free==NameKind.free)=true then _ else _) >>= _)=_
    rw[if_pos (by decide)]
    unfold cellOf
    rw[e]
    exact h1
   ·rcases h2 p hp with z|z
    ·rcases List.mem_cons.mp z with z|z
     ·subst z;exact .inr e
     ·exact .inl z
    ·exact .inr z
   ·rcases List.mem_cons.mp hx with z|z
    ·subst z;exact⟨c,h3 _ List.mem_cons_self⟩
    ·exact h4 x z hf'
  ·obtain⟨cl,h1,h2,h3,h4⟩:=gO f hf r cs hr
   refine⟨cl,?_,h2,h3,fun x hx hf'=>?_⟩
   ·rw[List.forIn_cons,hf,if_neg (by simpa using hk)]
    exact h1
   ·rcases List.mem_cons.mp hx with z|z
    ·subst z;exact absurd hf' hk
    ·exact h4 x z hf'
theorem qr {env:Env}{scope:Scope} (hc:∀ x∈scope.names,x.2=.free→∃ c,env.cells.lookup x.1=some c):
  ∃ cl,closureFor scope env=pure cl∧(∀ p∈cl,env.cells.lookup p.1=some p.2)∧∀ x∈scope.names,x.2=.free→∃ c,(x.1,c)∈cl:=by
 obtain⟨cl,h1,h2,_,h4⟩:=gO (env:=env) (fun x cs=>if x.2==.free then (do let a ← cellOf env x.1;pure (.yield ((x.1,a)::cs))) else pure (.yield cs)) (fun _ _ _=>rfl) scope.names [] hc
 refine⟨cl,?_,fun p hp=>(h2 p hp).elim (fun z=>nomatch z) id,h4⟩
 unfold closureFor
 rw[← h1]
 show (forIn scope.names [] _ >>= fun cs=>pure cs)=_
 have e:∀ (m:Sem (List (Str×Addr))),(m >>= fun cs=>pure cs)=m:=fun m=>bind_pure m
 first
  | exact e _
  | (rw[e];congr 1;funext x cs;obtain⟨n,k⟩:=x;cases hk:k==NameKind.free <;> simp[hk])
theorem dz {α:Type}:∀ {l:List (Str×α)}{x:Str}{c:α},(x,c)∈l→∃ d,l.lookup x=some d
 | (k,v)::r,x,c,h=>by
  rw[List.lookup_cons]
  cases hb:x==k with
  | true=>exact⟨v,rfl⟩
  | false=>
   rcases List.mem_cons.mp h with e|h
   ·cases e;simp at hb
   ·exact dz h
theorem dC:∀ (names:List (Str×NameKind))(n:Nat)(acc:List (Str×Addr))(p:Str×Addr),p∈cellsFrom n names acc→p∈acc∨(n≤p.2∧(p.1,NameKind.cell)∈names)
 | [],_,_,_,h=>.inl h
 | (y,k)::r,n,acc,p,h=>by
  unfold cellsFrom at h
  split at h
  ·rename_i hk
   have ek:k=.cell:=by simpa using hk
   rcases dC r (n+1) _ p h with z|⟨z1,z2⟩
   ·rcases List.mem_cons.mp z with z|z
    ·subst z;subst ek;exact .inr ⟨Nat.le_refl _,List.mem_cons_self⟩
    ·exact .inl z
   ·exact .inr ⟨by omega,List.mem_cons_of_mem _ z2⟩
  ·rcases dC r n acc p h with z|⟨z1,z2⟩
   ·exact .inl z
   ·exact .inr ⟨z1,List.mem_cons_of_mem _ z2⟩
theorem dD:∀ (names:List (Str×NameKind))(n:Nat)(acc:List (Str×Addr)),(∀ p∈acc,p.2<n)→(∀ x y c,(x,c)∈acc→(y,c)∈acc→x=y)→
  ∀ x y c,(x,c)∈cellsFrom n names acc→(y,c)∈cellsFrom n names acc→x=y
 | [],_,_,_,h=>h
 | (z,k)::r,n,acc,hlt,h=>by
  unfold cellsFrom
  split
  ·refine dD r (n+1) _ (fun p hp=>?_) (fun x y c h1 h2=>?_)
   ·rcases List.mem_cons.mp hp with e|hp
    ·subst e;exact Nat.lt_succ_self _
    ·exact Nat.lt_succ_of_lt (hlt p hp)
   ·rcases List.mem_cons.mp h1 with e1|h1 <;> rcases List.mem_cons.mp h2 with e2|h2
    ·cases e1;cases e2;rfl
    ·cases e1;exact absurd (hlt _ h2) (Nat.lt_irrefl _)
    ·cases e2;exact absurd (hlt _ h1) (Nat.lt_irrefl _)
    ·exact h x y c h1 h2
  ·exact dD r n acc hlt h
theorem dB:∀ (names:List (Str×NameKind))(n:Nat)(acc:List (Str×Addr)){x:Str},(∀ y∈names,y.2=.cell→y.1≠x)→(cellsFrom n names acc).lookup x=acc.lookup x
 | [],_,_,_,_=>rfl
 | (z,k)::r,n,acc,x,h=>by
  unfold cellsFrom
  have hr:∀ y∈r,y.2=.cell→y.1≠x:=fun y hy=>h y (List.mem_cons_of_mem _ hy)
  split
  ·rename_i hk
   rw[dB r (n+1) _ hr,List.lookup_cons]
   have:(x==z)=false:=by
    have:=h (z,k) List.mem_cons_self (by simpa using hk)
    simpa using Ne.symm this
   rw[this]
  ·exact dB r n acc hr
theorem cG:∀ (names:List (Str×NameKind))(h:Heap)(acc:List (Str×Addr)),(∀ p∈acc,∃ v,h.IsCell p.2 v)→∀ p∈cellsFrom h.objs.size names acc,∃ v,(pushCells h names).IsCell p.2 v
 | [],_,_,hc=>hc
 | (z,k)::r,h,acc,hc=>by
  unfold cellsFrom pushCells
  split
  ·have:=cG r (h.push { cls:=.type "cell",data:=.cell none }) ((z,h.objs.size)::acc) (fun p hp=>by
    rcases List.mem_cons.mp hp with e|hp
    ·subst e;exact⟨none,_,Heap.get?_push_size _ rfl,rfl⟩
    ·obtain⟨v,q⟩:=hc p hp
     exact⟨v,q.keeps fun b o e=>Heap.get?_push_of_some _ e⟩)
   rwa [Heap.size_push]at this
  ·exact cG r h acc hc
def b5 (X:Cx)(scope:Scope)(N':List Str)(cells:List (Str×Addr))(C:Addr)(s:Shared)(H:Hp)(fp:List Addr):Cx where
 prog:=X.prog
 w:=X.w
 K:=X.K
 mg:=X.mg
 base:=X.base
 A:=X.A
 N:=N'
 s₀:=s
 H₀:=H
 env:=compEnvC scope cells C X.env
 outer:=X.stack
 stack:=X.stack
 ex:=fp
 fn:=fun x=>decide (scope.names.lookup x=some .cell)
 calm:=X.calm
 pn:=[]
 xe:=fun _ _=>False
def oo (scope:Scope)(x:Str):Bool:=scope.names.any fun y=>y.1==x&&y.2==.free
def oq (scope:Scope)(x:Str):Bool:=scope.names.any fun y=>y.1==x&&y.2==.cell
def lL (sc:Scope)(N:List Str)(scope:Scope)(nT:Nat)(js:List Nat)(N':List Str):Bool:=
 scope.kind==.function&&decide (N'.length=nT+js.length) &&
 scope.names.all (fun x=>(x.2 != .local || scope.names.lookup x.1==some .local)&&(x.2 != .free || ((sc.names.lookup x.1==some .cell || sc.names.lookup x.1==some .free)&&scope.names.lookup x.1==some .free))) &&
 (js.zipIdx.all fun (j,i)=>match N'[nT+i]?,N[j]? with
  | some x,some y=>x==y&&oo scope x&&!(oq scope x)
  | _,_=>false)
structure dW (X : Cx) (scope : Scope) (nT : Nat) (js : List Nat) (N' : List Str) : Prop where
  kind : scope.kind = .function
  len : N'.length = nT + js.length
  loc : ∀ x ∈ scope.names, x.2 = .local → scope.names.lookup x.1 = some .local
  free : ∀ x ∈ scope.names, x.2 = .free → (X.env.kindOf x.1 = some .cell ∨ X.env.kindOf x.1 = some .free)
  frl : ∀ x ∈ scope.names, x.2 = .free → scope.names.lookup x.1 = some .free
  cap : ∀ (i j : Nat), js[i]? = some j → ∃ x, N'[nT + i]? = some x ∧ X.N[j]? = some x ∧ (x, NameKind.free) ∈ scope.names ∧ ∀ y ∈ scope.names, y.2 = .cell → y.1 ≠ x
theorem ao {X:Cx}{sc:Scope}{N:List Str}{scope:Scope}{nT:Nat}{js:List Nat}{N':List Str} (hsc:X.env.scope=sc) (hN:X.N=N) (h:lL sc N scope nT js N'=true):dW X scope nT js N':=by
 unfold lL at h
 simp only[Bool.and_eq_true,decide_eq_true_eq,List.all_eq_true,beq_iff_eq]at h
 obtain⟨⟨⟨h1,h2⟩,h3⟩,h4⟩:=h
 refine⟨h1,h2,fun x hx hl=>?_,fun x hx hf=>?_,fun x hx hf=>?_,fun i j e=>?_⟩
 ·have:=(h3 x hx).1
  simp only[hl,bne_self_eq_false,Bool.false_or,beq_iff_eq]at this
  exact this
 ·have:=(h3 x hx).2
  simp only[hf,bne_self_eq_false,Bool.false_or,Bool.or_eq_true,Bool.and_eq_true,beq_iff_eq]at this
  show X.env.scope.names.lookup x.1=_∨X.env.scope.names.lookup x.1=_
  rw[hsc]
  exact this.1
 ·have:=(h3 x hx).2
  simp only[hf,bne_self_eq_false,Bool.false_or,Bool.or_eq_true,Bool.and_eq_true,beq_iff_eq]at this
  exact this.2
 ·have m:(j,i)∈js.zipIdx:=by
   rw[List.mem_zipIdx_iff_getElem?]
   exact e
  have q:=h4 (j,i) m
  rw[hN]
  revert q
  dsimp only
  cases e1:N'[nT+i]? with
  | none=>intro q;cases q
  | some x=>
   cases e2:N[j]? with
   | none=>intro q;cases q
   | some y=>
    intro q
    simp only[Bool.and_eq_true,beq_iff_eq,Bool.not_eq_true']at q
    obtain⟨⟨q1,q2⟩,q3⟩:=q
    subst q1
    refine⟨x,rfl,rfl,?_,fun y hy hc hxy=>?_⟩
    ·unfold oo at q2
     obtain⟨z,hz,hz2⟩:=List.any_eq_true.mp q2
     simp only[Bool.and_eq_true,beq_iff_eq]at hz2
     obtain⟨a,b⟩:=z
     obtain⟨rfl,rfl⟩:=hz2
     exact hz
    ·have:oq scope x=true:=List.any_eq_true.mpr ⟨y,hy,by simp[hxy,hc]⟩
     rw[q3]at this;cases this
def rz (nT:Nat)(js:List Nat)(σ:St):St:=List.replicate nT none++js.map fun j=>(σ[j]?).join
def sM (X:Cx)(ifs:List Expr)(t:TT):Prop:=
 ∀ (pins:List (Addr×Obj))(s:Shared)(σ:St)(H:Hp)(Q:Bool→Hp→Prop),Inv X pins σ H s→t σ H Q→
  wpAny (model X.prog X.w) X.A (forIn ifs true fun c r=>if r=true then do let ok ← isTrue c X.env (eval c X.env);pure (ForInStep.yield ok) else pure (ForInStep.yield r)) (TP X pins σ Q) X.xe s
def i8:TT:=fun _ H Q=>Q true H
theorem aT {X:Cx}:sM X [] i8:=fun pins s σ H Q I h=>by rw[List.forIn_nil];exact wpAny_pure ⟨H,I,h⟩
theorem gX {X:Cx}{c:Expr}{t:TT} (hc:PT X c t):sM X [c] t:=fun pins s σ H Q I h=>by
 rw[List.forIn_cons]
 rw[if_pos rfl]
 refine wpAny_bind (wpAny_bind (thn (hc pins s σ H Q I h) fun b s1 q=>wpAny_pure ?_))
 show wpAny _ _ (forIn [] b _) _ _ _
 rw[List.forIn_nil]
 exact wpAny_pure q
def bw (nT:Nat)(js:List Nat)(g:TG)(tt:TT)(te:TE)(σ:St)(F:Addr→Hp→Prop):It→Hp→Prop:=fun J H1=>∀ l,H1 l=none→
 ∃ W:Nat→Nat→St→Hp→Prop,(∃ m,W 0 m (rz nT js σ) (upd H1 l (.lst [])))∧∀ i m σ' H',W i m σ' H'→
  (J.stop i H'∧F l H')∨(J.go i H'∧∀ x H2,J.yld i H' x H2→g x σ' H2 fun σ3 H3=>∃ (N:Hp→Prop)(NV:V→Hp→Prop),
   (∀ H4,N H4→∃ m',m'<m∧W (i+1) m' σ3 H4)∧(∀ v H5,NV v H5→∃ ys,H5 l=some (.lst ys)∧ys.length<sizeLine∧∃ m',m'<m∧W (i+1) m' σ3 (upd H5 l (.lst (ys++[v]))))∧
   tt σ3 H3 fun b H4=>if b=true then te σ3 H4 NV else N H4)
section
variable {X : Cx}{pins : List (Addr×Obj)}{σ : St}{H : Hp}{s : Shared}{elt tg iter : Expr}{ifs : List Expr}{scope : Scope}{pos : Pos}{wi : TI}{nT : Nat}{js : List Nat}{N' : List Str}{g : TG}{tt : TT}{te : TE}
def OwnC (X:Cx)(pins:List (Addr×Obj))(H:Hp)(C:Addr)(s:Shared):Prop:=jb X pins H C∧X.s₀.heap.objs.size≤C∧∃ m,s.heap.Ns C m
theorem uo {use:Option (Value→Sem Unit)}{Q:Value→Shared→Prop}{F:Addr→Hp→Prop}{cpos:Pos}{Cc:Cx→Prop} (hc:∀ cells C s H fp,Cc (b5 X scope N' cells C s H fp)) (S:dW X scope nT js N') (hi:PI0 Cc X tg iter wi)
  (hg:∀ cells C s H fp,PG (b5 X scope N' cells C s H fp) tg g) (ht:∀ cells C s H fp,sM (b5 X scope N' cells C s H fp) ifs tt) (he:∀ cells C s H fp,PE (b5 X scope N' cells C s H fp) elt te)
  (I:Inv X pins σ H s) (h:wi σ H (bw nT js g tt te σ F))
  (fin:∀ (l C:Addr)(s':Shared)(H':Hp),Inv X pins σ H' s'→OwnC X pins H' C s'→F l H'→compPost (model X.prog X.w) X.A X.xe use Q (.ref l) C (.ok .next) s')
  (hs:∀ x,foldedSetIterable iter X.env x=pure x:=by intro _;rfl):
  wpAny (model X.prog X.w) X.A (comprehension (.ListComp elt [⟨tg,iter,ifs,0⟩] scope pos) scope X.env cpos (newList []) false (eval iter X.env) use) Q X.xe s:=by
 have hasC:∀ x∈scope.names,x.2=.free→∃ c,X.env.cells.lookup x.1=some c:=fun x hx hf=>I.ok.has x.1 (S.free x hx hf)
 obtain⟨cl,hcl,hclm,hclf⟩:=qr (env:=X.env) hasC
 refine wpAny_comprehension_free rfl hs hcl S.kind S.loc (thn (hi pins s σ H _ I h) fun v s1 h1=>thn h1 fun itv s2 h2=>?_)
 obtain⟨it,fp,tn,J,H2,e,I2,T,st2,f2,rd⟩:=h2
 subst e
 have I3:Inv X pins σ (upd H2 s2.heap.objs.size (.lst [])) { s2 with heap:=s2.heap.push { cls:=.type "list",data:=.seq ([]:List Value).toArray } }:=I2.lnew (t':=s2.toks) (its:=[]) .nil (Nat.zero_le _)
 refine wpAny_newObj_type ?_ (by show 0≤sizeLine;exact Nat.zero_le _)
 obtain⟨W,⟨m0,w0⟩,turn⟩:=rd s2.heap.objs.size (I2.hok.fresh (Nat.le_refl _))
 have hl2:H2 s2.heap.objs.size=none:=I2.hok.fresh (Nat.le_refl _)
 generalize hl:s2.heap.objs.size=l at I3 w0 turn hl2 ⊢
 generalize hs3:({ s2 with heap:=s2.heap.push { cls:=.type "list",data:=.seq ([]:List Value).toArray } }:Shared)=s3 at I3 ⊢
 have z3:s3.heap.objs.size=l+1:=by rw[← hs3,← hl];exact Heap.size_push ..
 have k23:∀ b o,s2.heap.get? b=some o→s3.heap.get? b=some o:=fun b o e=>by rw[← hs3];exact Heap.get?_push_of_some _ e
 refine nY ?_
 generalize hC:s3.heap.objs.size=C
 generalize hcells:cellsFrom (C+1) scope.names cl=cells
 have hz4:(s3.heap.push { cls:=.type "dict",data:=.dict #[] }).objs.size=C+1:=by rw[Heap.size_push,hC]
 have k34:∀ b o,s3.heap.get? b=some o→(pushCells (s3.heap.push { cls:=.type "dict",data:=.dict #[] }) scope.names).get? b=some o:=fun b o e=>pushCells_keeps _ _ b o (Heap.get?_push_of_some _ e)
 have nsC:(pushCells (s3.heap.push { cls:=.type "dict",data:=.dict #[] }) scope.names).Ns C (fun _=>none):=by
  have:=(Heap.Ns.new s3.heap (.type "dict")).keeps (pushCells_keeps scope.names _)
  rwa [hC]at this
 generalize hh4:pushCells (s3.heap.push { cls:=.type "dict",data:=.dict #[] }) scope.names=h4 at k34 nsC
 have memC:∀ x c,cells.lookup x=some c→(X.env.cells.lookup x=some c∧@LT.lt Nat _ c C)∨(@LE.le Nat _ (C+1) c∧(x,NameKind.cell)∈scope.names):=fun x c e=>by
  have m:=mem_of_lookup e
  rw[← hcells]at m
  rcases dC _ _ _ _ m with z|z
  ·have q:=hclm _ z
   obtain⟨v,iz⟩:=I3.cell x c q
   exact .inl ⟨q,by have:=iz.lt;rw[hC]at this;exact this⟩
  ·exact .inr z
 have cellsOk:∀ x c,cells.lookup x=some c→∃ v,h4.IsCell c v:=fun x c e=>by
  have m:=mem_of_lookup e
  have:=cG scope.names (s3.heap.push { cls:=.type "dict",data:=.dict #[] }) cl (fun p hp=>by
   obtain⟨v,iz⟩:=I3.cell p.1 p.2 (hclm p hp)
   exact⟨v,iz.keeps fun b o e=>Heap.get?_push_of_some _ e⟩)
  rw[hz4,hcells,hh4]at this
  exact this _ m
 show codeAny (model X.prog X.w) X.A (.compStart _ 0 (.ref it) (.ref l) (compEnvC scope cells C X.env)) (compPost (model X.prog X.w) X.A X.xe use Q (.ref l) C) { s3 with heap:=h4 }
 have fpLt:∀ b∈fp,@LT.lt Nat _ b l:=fun b hb=>by
  obtain⟨o,e,_⟩:=T.obj _ _ st2 b hb
  rw[← hl];exact Heap.lt_size e
 have fpStk:∀ b∈fp,b∉frs X.stack:=fun b hb z=>(List.mem_cons.mp (I2.stkSub b z)).elim (f2 b hb).2.1 (f2 b hb).2.2.1
 have okC:(b5 X scope N' cells C s3 (upd H2 l (.lst [])) fp).Ok:=by
  refine⟨I3.ok.mod,S.kind,I3.ok.glob,I3.ok.blt,Nat.le_of_eq hC,fun x y c e1 e2=>?_,fun x hx=>?_,fun x c hf e=>?_,I3.ok.hd,I3.ok.frames,.inl rfl,fun b hb=>⟨?_,fun x c e z=>?_⟩,I3.bs,Nat.le_trans I3.ok.bsz I3.sz,fun b o e hb=>?_,fpStk,I3.stack,I3.stkFree⟩
  ·have e1':=mem_of_lookup (show cells.lookup x=some c from e1)
   have e2':=mem_of_lookup (show cells.lookup y=some c from e2)
   rw[← hcells]at e1' e2'
   refine dD scope.names (C+1) cl (fun p hp=>?_) (fun x y c h1 h2=>I3.ok.inj x y c (hclm _ h1) (hclm _ h2)) x y c e1' e2'
   obtain⟨v,iz⟩:=I3.cell p.1 p.2 (hclm p hp)
   have h1:@LT.lt Nat _ p.2 s3.heap.objs.size:=iz.lt
   rw[hC]at h1
   show @LT.lt Nat _ p.2 (C+1)
   omega
  ·have hx':(relabel scope X.env).names.lookup x=some .cell∨(relabel scope X.env).names.lookup x=some .free:=hx
   have:∃ k,(x,k)∈scope.names∧(k=.cell∨k=.free):=by
    have m:∃ k,(x,k)∈(relabel scope X.env).names∧(k=.cell∨k=.free):=by
     rcases hx' with z|z
     ·exact⟨_,mem_of_lookup z,.inl rfl⟩
     ·exact⟨_,mem_of_lookup z,.inr rfl⟩
    obtain⟨k,m,hk⟩:=m
    unfold relabel at m
    obtain⟨⟨n,k'⟩,m',e⟩:=List.mem_map.mp m
    dsimp only at e
    split at e
    ·rename_i hcond
     cases e
     simp only[Bool.and_eq_true,beq_iff_eq]at hcond
     exact⟨k',m',.inr hcond.1.1⟩
    ·cases e;exact⟨k,m',hk⟩
   obtain⟨k,m,hk⟩:=this
   show ∃ c,cells.lookup x=some c
   rw[← hcells]
   have key:∃ c,(x,c)∈cellsFrom (C+1) scope.names cl:=by
    rcases hk with rfl|rfl
    ·have gen:∀ (names:List (Str×NameKind))(n:Nat)(acc:List (Str×Addr)),((x,NameKind.cell)∈names∨∃ c,(x,c)∈acc)→∃ c,(x,c)∈cellsFrom n names acc:=by
      intro names
      induction names with
      | nil=>intro n acc h;exact h.elim (fun z=>nomatch z) id
      | cons y r ih=>
       intro n acc h
       obtain⟨y,k⟩:=y
       unfold cellsFrom
       split
       ·rename_i hk
        refine ih _ _ ?_
        rcases h with h|⟨c,h⟩
        ·rcases List.mem_cons.mp h with e|h
         ·cases e;exact .inr ⟨n,List.mem_cons_self⟩
         ·exact .inl h
        ·exact .inr ⟨c,List.mem_cons_of_mem _ h⟩
       ·rename_i hk
        refine ih _ _ ?_
        rcases h with h|h
        ·rcases List.mem_cons.mp h with e|h
         ·cases e;exact absurd (show (NameKind.cell==NameKind.cell)=true by decide) hk
         ·exact .inl h
        ·exact .inr h
     exact gen _ _ _ (.inl m)
    ·obtain⟨c,hc'⟩:=hclf _ m rfl
     have gen:∀ (names:List (Str×NameKind))(n:Nat)(acc:List (Str×Addr)),(x,c)∈acc→(x,c)∈cellsFrom n names acc:=by
      intro names
      induction names with
      | nil=>intro n acc h;exact h
      | cons y r ih=>
       intro n acc h
       obtain⟨y,k⟩:=y
       unfold cellsFrom
       split
       ·exact ih _ _ (List.mem_cons_of_mem _ h)
       ·exact ih _ _ h
     exact⟨c,gen _ _ _ hc'⟩
   obtain⟨c,m⟩:=key
   exact dz m
  ·have hf':decide (scope.names.lookup x=some NameKind.cell)=true:=hf
   have hf'':=of_decide_eq_true hf'
   rcases memC x c e with⟨_,_⟩|⟨z,_⟩
   ·
    have gen:∀ (names:List (Str×NameKind))(n:Nat)(acc:List (Str×Addr)),names.lookup x=some .cell→C+1≤n→∀ c,(cellsFrom n names acc).lookup x=some c→C+1≤c:=by
     intro names
     induction names with
     | nil=>intro n acc h;cases h
     | cons y r ih=>
      intro n acc h hn c hcc
      obtain⟨y,k⟩:=y
      rw[List.lookup_cons]at h
      unfold cellsFrom at hcc
      have last:∀ (names:List (Str×NameKind))(n:Nat)(acc:List (Str×Addr)),C+1≤n→(∀ d,acc.lookup x=some d→C+1≤d)→∀ c,(cellsFrom n names acc).lookup x=some c→C+1≤c:=by
       intro names
       induction names with
       | nil=>intro n acc _ h c hc;exact h c hc
       | cons y r ih=>
        intro n acc hn h c hc
        obtain⟨y,k⟩:=y
        unfold cellsFrom at hc
        split at hc
        ·refine ih (n+1) _ (by omega) (fun d hd=>?_) c hc
         rw[List.lookup_cons]at hd
         split at hd
         ·cases hd;exact hn
         ·exact h d hd
        ·exact ih n acc hn h c hc
      cases hb:x==y with
      | true=>
       rw[hb]at h
       cases h
       rw[if_pos (by decide)]at hcc
       refine last r (n+1) _ (by omega) (fun d hd=>?_) c hcc
       rw[List.lookup_cons,hb]at hd
       cases hd;exact hn
      | false=>
       rw[hb]at h
       split at hcc
       ·exact ih (n+1) _ h (by omega) c hcc
       ·exact ih n acc h hn c hcc
    have e':cells.lookup x=some c:=e
    rw[← hcells]at e'
    have h1:@LE.le Nat _ (C+1) c:=gen scope.names (C+1) cl hf'' (Nat.le_refl _) c e'
    show @LE.le Nat _ s3.heap.objs.size c
    omega
   ·show @LE.le Nat _ s3.heap.objs.size c
    omega
  ·have:=fpLt b hb
   show @Ne Nat b C
   omega
  ·subst z
   rcases memC x c e with⟨q,_⟩|⟨q,_⟩
   ·exact (f2 c hb).2.2.2.2.1 x c q rfl
   ·have:=fpLt c hb
    omega
  ·rcases (f2 b hb).2.2.2.1 with z|z
   ·exact I3.ok.noex b o e z
   ·exact absurd (Nat.lt_of_lt_of_le (Heap.lt_size e) (Nat.le_trans I3.ok.bsz z)) (Nat.lt_irrefl _)
 have HC:∀ c:Addr,@LE.le Nat _ C c→upd H2 l (.lst []) c=none:=fun c hcc=>I3.hok.fresh (show @LE.le Nat _ s3.heap.objs.size c by omega)
 have I4:Inv (b5 X scope N' cells C s3 (upd H2 l (.lst [])) fp) [] (rz nT js σ) (upd H2 l (.lst [])) { s3 with heap:=h4 }:=by
  refine⟨okC,rfl,I3.bare,Un.kept k34,⟨_,nsC,fun i x v e1 e2 e3=>?_⟩,cellsOk,HC C (Nat.le_refl _),fun x c e=>?_,(fun p hp=>nomatch hp),I3.hok.kept k34,?_⟩
  ·
   unfold rz at e2
   by_cases hi':i<nT
   ·rw[List.getElem?_append_left (by simpa using hi'),List.getElem?_replicate]at e2
    split at e2 <;> cases e2
   ·rw[List.getElem?_append_right (by simpa using hi'),List.length_replicate,List.getElem?_map]at e2
    cases ej:js[i - nT]? with
    | none=>rw[ej]at e2;cases e2
    | some j=>
     rw[ej]at e2
     have e2':(σ[j]?).join=some v:=by simpa using e2
     have e2'':σ[j]?=some (some v):=by
      cases eσ:σ[j]? with
      | none=>rw[eσ]at e2';cases e2'
      | some o=>rw[eσ]at e2';exact congrArg some e2'
     obtain⟨y,n1,n2,n3,n4⟩:=S.cap _ _ ej
     have:nT+(i - nT)=i:=by omega
     rw[this]at n1
     have exy:x=y:=by
      have e1':N'[i]?=some x:=e1
      rw[n1]at e1';exact (Option.some.inj e1').symm
     subst exy
     obtain⟨m,hn,hlk⟩:=I3.loc
     have kinds:=S.free _ n3 rfl
     have vis:Vis X.env.scope x:=by
      rcases kinds with k|k
      ·exact .inr (.inl k)
      ·exact .inr (.inr k)
     obtain⟨u,r,lk⟩:=hlk j x v n2 e2'' vis
     refine⟨u,r,?_⟩
     rcases lk with⟨k,_⟩|⟨k,c,ec,iz⟩
     ·rcases kinds with k'|k'
      ·rw[k]at k';cases k'
      ·rw[k]at k';cases k'
     ·refine .inr ⟨?_,c,?_,iz.keeps k34⟩
      ·show (relabel scope X.env).names.lookup x=some .cell∨(relabel scope X.env).names.lookup x=some .free
       have e3':Vis (relabel scope X.env) x:=e3
       rcases e3' with z|z|z
       ·
        exfalso
        have m:=mem_of_lookup z
        unfold relabel at m
        obtain⟨⟨n,k'⟩,m',e⟩:=List.mem_map.mp m
        dsimp only at e
        split at e
        ·cases e
        ·cases e
         have q:=S.loc _ m' rfl
         rw[S.frl _ n3 rfl]at q
         cases q
       ·exact .inl z
       ·exact .inr z
      ·show cells.lookup x=some c
       rw[← hcells,dB _ _ _ n4]
       obtain⟨d,hd⟩:=hclf _ n3 rfl
       obtain⟨d',hd'⟩:=dz hd
       have:=hclm _ (mem_of_lookup hd')
       rw[ec]at this
       rw[hd',Option.some.inj this]
  ·rcases memC x c e with⟨q,_⟩|⟨q,_⟩
   ·exact I3.freeC x c q
   ·exact HC c (by omega)
  ·unfold rz
   show _=N'.length
   rw[S.len,List.length_append,List.length_replicate,List.length_map]
 have stat:∀ {H':Hp},(∀ b∈fp,H' b=none)→∀ b∈fp,jb (b5 X scope N' cells C s3 (upd H2 l (.lst [])) fp) [] H' b:=fun hn b hb=>by
  refine⟨hn b hb,?_,fpStk b hb,.inl hb,fun x c e z=>?_,(fun p hp=>nomatch hp)⟩
  ·have:=fpLt b hb
   show @Ne Nat b C
   omega
  ·subst z
   rcases memC x c e with⟨q,_⟩|⟨q,_⟩
   ·exact (f2 c hb).2.2.2.2.1 x c q rfl
   ·have:=fpLt c hb
    omega
 have fr0:∀ b∈fp,upd H2 l (.lst []) b=none:=fun b hb=>by
  rw[aa (Nat.ne_of_lt (fpLt b hb))]
  exact (f2 b hb).1
 have tn4:tn 0 h4:=T.keep _ _ _ st2 fun b _ o e=>k34 b o (k23 b o e)
 have loop:codeAny (model X.prog X.w) X.A (.compLoop (.ListComp elt [⟨tg,iter,ifs,0⟩] scope pos) 0 (.ref it) (.ref l) (compEnvC scope cells C X.env)) (compPost (model X.prog X.w) X.A X.xe use Q (.ref l) C) { s3 with heap:=h4 }:=by
  refine mO (fun n s'=>∃ i σ' H',Inv (b5 X scope N' cells C s3 (upd H2 l (.lst [])) fp) [] σ' H' s'∧tn i s'.heap∧(∀ b∈fp,H' b=none)∧W i n σ' H') ?_ m0 ⟨0,_,_,I4,tn4,fr0,w0⟩
  rintro n s5 ⟨i,σ5,H5,I5,st5,fr5,w5⟩
  rcases turn i n σ5 H5 w5 with⟨stop,qn⟩|⟨go,step⟩
  ·refine thn (T.done (b5 X scope N' cells C s3 (upd H2 l (.lst [])) fp) rfl rfl rfl (hc _ _ _ _ _) i [] s5 σ5 H5 noX I5 (stat fr5) st5 stop) fun r s6 ⟨hr,I6⟩=>?_
   subst hr
   have un:Un (frs X.stack) fp (upd H2 l (.lst [])) H5 s3.heap s6.heap:=I6.base
   have J6:Inv X pins σ H5 s6:=I3.call' (ch:=fp) I6.os un I6.hok I6.bare fun b hb=>⟨(f2 b hb).2.2.2.1,(f2 b hb).2.1,(f2 b hb).2.2.2.2.1,(f2 b hb).2.2.2.2.2⟩
   obtain⟨m6,n6,_⟩:=I6.loc
   have hCX:@Ne Nat C X.env.locals:=by
    have h1:@LT.lt Nat _ X.env.locals s3.heap.objs.size:=I3.lt
    omega
   have hCs:@LE.le Nat _ X.s₀.heap.objs.size C:=by have:=I3.sz;omega
   refine fin l C s6 H5 J6 ⟨⟨I6.free,hCX,fun z=>?_,.inr hCs,fun x c e z=>?_,fun p hp z=>?_⟩,hCs,m6,n6⟩ qn
   ·have:=I3.nofs (a:=C) (Nat.le_of_eq hC)
    exact this z
   ·obtain⟨v,iz⟩:=I3.cell x c e
    have h1:@LT.lt Nat _ c s3.heap.objs.size:=iz.lt
    have h2:@Eq Nat c C:=z
    omega
   ·have h1:@LT.lt Nat _ p.1 s3.heap.objs.size:=Heap.lt_size (I3.pin p hp).1
    have h2:@Eq Nat p.1 C:=z
    omega
  ·refine thn (T.item (b5 X scope N' cells C s3 (upd H2 l (.lst [])) fp) rfl rfl rfl (hc _ _ _ _ _) i [] s5 σ5 H5 noX I5 (stat fr5) st5 go) fun r s6 ⟨u,hr,h6⟩=>?_
   subst hr
   refine thn h6 fun _ s7 ⟨x,H7,I7,r7,y7,st7,fr7⟩=>?_
   have I7':=I7.pinned (stat fr7) (T.obj _ _ st7)
   refine thn (hg cells C s3 (upd H2 l (.lst [])) fp _ s7 σ5 H7 x u _ I7' r7 (step x H7 y7)) fun _ s8 ⟨σ8,H8,I8,q8⟩=>?_
   have again:∀ {H9:Hp}{s9:Shared},Inv (b5 X scope N' cells C s3 (upd H2 l (.lst [])) fp) ([]++jF fp s7.heap) σ8 H9 s9→tn (i+1) s9.heap∧∀ b∈fp,H9 b=none:=fun {H9 s9} I9=>by
    refine⟨T.keep _ _ _ st7 fun b hb o e=>(I9.pin (b,o) (List.mem_append_right _ (List.mem_append_right _ (eB hb e)))).1,fun b hb=>?_⟩
    obtain⟨o,e,d⟩:=T.obj _ _ st7 b hb
    exact (I9.pin (b,o) (List.mem_append_right _ (List.mem_append_right _ (eB hb e)))).2.1
   obtain⟨N,NV,hN,hNV,q8⟩:=q8
   refine thn (ht cells C s3 (upd H2 l (.lst [])) fp _ s8 σ8 H8 _ I8 q8) fun b s9 ⟨H9,I9,q9⟩=>?_
   cases b with
   | false=>
    rw[if_neg Bool.false_ne_true]at q9 ⊢
    obtain⟨m',hm,w9⟩:=hN _ q9
    exact⟨m',hm,i+1,σ8,H9,I9.unpinned,(again I9).1,(again I9).2,w9⟩
   | true=>
    rw[if_pos rfl]at q9 ⊢
    refine thn (he cells C s3 (upd H2 l (.lst [])) fp _ s9 σ8 H9 _ I9 q9) fun y s10 ⟨v,H10,I10,r10,q10⟩=>?_
    obtain⟨ys,el,hz,m',hm,w10⟩:=hNV _ _ q10
    refine thn (be (X:=b5 X scope N' cells C s3 (upd H2 l (.lst [])) fp) _ s10 σ8 H10 (.ref l) [v] (.ref l) [y] (fun z H11=>z=.non∧H11=upd H10 l (.lst (ys++[v]))) I10 rfl (.cons r10 .nil) ⟨l,ys,v,rfl,rfl,el,hz,rfl,rfl⟩) fun _ s11 ⟨_,H11,I11,_,_,e11⟩=>?_
    subst e11
    exact⟨m',hm,i+1,σ8,_,I11.unpinned,(again I11).1,(again I11).2,w10⟩
 refine codeAny_compStart_list loop (T.self _ 0 _ _ _ tn4 loop)
end
section
variable {X : Cx}{elt tg iter : Expr}{ifs : List Expr}{scope : Scope}{pos : Pos}{wi : TI}{nT : Nat}{js : List Nat}{N' : List Str}{g : TG}{tt : TT}{te : TE}
def tComp (wi:TI)(nT:Nat)(js:List Nat)(g:TG)(tt:TT)(te:TE):TE:=fun σ H Q=>wi σ H (bw nT js g tt te σ fun l H'=>Q (.ref l) H')
theorem tH {Cc:Cx→Prop}(hc:∀ cells C s H fp,Cc (b5 X scope N' cells C s H fp))(S:dW X scope nT js N')(hi:PI0 Cc X tg iter wi)
  (hg:∀ cells C s H fp,PG (b5 X scope N' cells C s H fp) tg g) (ht:∀ cells C s H fp,sM (b5 X scope N' cells C s H fp) ifs tt) (he:∀ cells C s H fp,PE (b5 X scope N' cells C s H fp) elt te)
  (hs:∀ x,foldedSetIterable iter X.env x=pure x:=by intro _;rfl):PE X (.ListComp elt [⟨tg,iter,ifs,0⟩] scope pos) (tComp wi nT js g tt te):=by
 intro pins s σ H Q I h
 rw[eval_ListComp]
 refine uo (use:=none) hc S hi hg ht he I h (fun l C s' H' I' ⟨f,_,m,n⟩ q=>?_) hs
 refine⟨m,n,fun h' sb=>⟨.ref l,H',?_,rfl,q⟩⟩
 exact I'.turned (t':=s'.toks) (fun b o hb e=>(sb.2 b hb).trans e) f.1 f.2.1 f.2.2.2.1 f.2.2.2.2.1 f.2.2.2.2.2
theorem aO (hc:X.calm=true)(S:dW X scope nT js N')(hi:PI X tg iter wi)
  (hg:∀ cells C s H fp,PG (b5 X scope N' cells C s H fp) tg g) (ht:∀ cells C s H fp,sM (b5 X scope N' cells C s H fp) ifs tt) (he:∀ cells C s H fp,PE (b5 X scope N' cells C s H fp) elt te)
  (hs:∀ x,foldedSetIterable iter X.env x=pure x:=by intro _;rfl):PE X (.ListComp elt [⟨tg,iter,ifs,0⟩] scope pos) (tComp wi nT js g tt te):=tH (fun _ _ _ _ _=>hc) S hi hg ht he hs
end
section
variable {js : List Nat}{tt : TT}{te : TE}{σ : St}{F : Addr → Hp → Prop}
end
section
variable {X : Cx}
theorem ur:CallR X (.builtin "isinstance") (fun xs H Q=>∃ x t T b,xs=[x,.ty T]∧i7 X.K H x t∧PySem.W.kitOne X.K t (.type T)=some b∧Q (.bl b) H):=by
 intro pins s σ H xs us Q I r h
 obtain⟨x,t,T,b,rfl,ty,e,q⟩:=h
 obtain⟨u,w',rfl,r1,r2⟩:=vals2 r
 cases r2
 exact sv I r1 ty e fun tk=>⟨.bl b,H,I.tok tk,rfl,q⟩
theorem bR:bootBuiltins "isinstance"=some (.builtin "isinstance"):=by decide +kernel
theorem oZ:bootBuiltins "sum"=some (.builtin "sum"):=by decide +kernel
theorem sJ (hc:X.calm=true):CallR X (.builtin "sum") (fun xs H Q=>∃ (p:Addr)(ns:List Int),xs=[.ref p]∧SqL X.K H p (ns.map V.int)∧Q (.int ns.sum) H):=by
 intro pins s σ H xs us Q I r h
 obtain⟨p,ns,rfl,hq,q⟩:=h
 obtain⟨u,rfl,r1⟩:=dH r
 cases r1
 obtain⟨its,rv,pl,hz⟩:=I.list hq
 have hi:IntsAre its ns:=qi rv
 obtain⟨xs,hx⟩:=hi.allInts.items
 have hl':s.heap.IsList p (intItems xs):=hx▸pl.isList
 refine sum_intListG (I.ok.hd hc) hl' fun h' tk t' hk=>?_
 have e1:ns=xs.toList.map (·.1):=by
  rw[← nums_intItems,← hx]
  exact (show numsOf its.toArray.toList=ns from hi.numsOf).symm
 have e2:preSum (numAt xs) xs.size=ns.sum:=by
  rw[preSum_eq,List.take_of_length_le (by simp),e1]
 rw[e2]
 exact⟨.int ns.sum,H,I.kept hk,⟨_,rfl⟩,q⟩
structure EqK (K : PySem.W.Frag) {α : Type} [DecidableEq α] (R : Hp → V → α → Prop) (k : Nat) : Prop where
  eq : ∀ (X : Cx) (A : Around) (pins : List (Addr × Obj)) (s : Shared) (σ : St) (H : Hp) (x y : V) (v u : Value) (a b : α), X.K = K → Inv X pins σ H s → RelV x v → RelV y u → R H x a → R H y b → A.units + k < cLine → SeqAt.EqAt A s v u (decide (a = b))
  fn : ∀ (X : Cx) (pins : List (Addr × Obj)) (s : Shared) (σ : St) (H : Hp) (x : V) (a b : α), X.K = K → Inv X pins σ H s → R H x a → R H x b → a = b
def isI:Hp→V→Int→Prop:=fun _ x n=>x=.int n
theorem hZ {K:PySem.W.Frag}:EqK K isI 0 where
 eq:=by
  intro X A pins s σ H x y v u a b _ I rx ry ha hb _
  cases ha
  cases hb
  obtain⟨t,rfl⟩:=rx
  obtain⟨t',rfl⟩:=ry
  obtain⟨e,h1,h2⟩:=HT.eqAt_int A s a t b t'
  have:e=decide (a=b):=by
   rw[Bool.eq_iff_iff,h2,decide_eq_true_iff]
  rw[← this];exact h1
 fn:=by
  intro X pins s σ H x a b _ I ha hb
  cases ha
  cases hb
  rfl
def j7 (K:PySem.W.Frag){α:Type}(R:Hp→V→α→Prop):Hp→V→List α→Prop:=fun H x as=>∃ p vs,x=.ref p∧SqL K H p vs∧Paired (R H) vs as
theorem Paired.at {α β:Type}{F:α→β→Prop}:∀ {l₁:List α}{l₂:List β}{i:Nat}{a:α},Paired F l₁ l₂→l₁[i]?=some a→∃ b,l₂[i]?=some b∧F a b
 | _,_,_,_,.nil,e=>by simp at e
 | _,_,0,_,.cons r _,e=>by simp at e;subst e;exact⟨_,rfl,r⟩
 | _,_,i+1,a,.cons _ t,e=>by
  obtain⟨u,h1,h2⟩:=Paired.at (i:=i) (a:=a) t (by simpa using e)
  exact⟨u,by simpa using h1,h2⟩
theorem Vals.at' {xs:List V}{us:List Value}{i:Nat}{u:Value} (r:Vals xs us) (h:us[i]?=some u):∃ x,xs[i]?=some x∧RelV x u:=by
 have hl:=r.length
 have hi:i<us.length:=(List.getElem?_eq_some_iff.mp h).1
 have e:xs[i]?=some xs[i]:=by simp
 obtain⟨u',h1,h2⟩:=r.get e
 rw[h]at h1;cases h1
 exact⟨_,e,h2⟩
theorem iQ {α β:Type}{F:α→β→Prop} (f:∀ a b c,F a b→F a c→b=c):∀ {l:List α}{m n:List β},Paired F l m→Paired F l n→m=n
 | _,_,_,.nil,.nil=>rfl
 | _,_,_,.cons r t,.cons r' t'=>by rw[f _ _ _ r r',iQ f t t']
section
variable {K : PySem.W.Frag}{α : Type} [DecidableEq α] {R : Hp → V → α → Prop}{k : Nat}
theorem qX (h:EqK K R k){X:Cx}{pins:List (Addr×Obj)}{s:Shared}{σ:St}{H:Hp}{x:V}{as bs:List α} (hK:X.K=K) (I:Inv X pins σ H s) (ha:j7 K R H x as) (hb:j7 K R H x bs):as=bs:=by
 obtain⟨p,vs,rfl,h1,h2⟩:=ha
 obtain⟨q,ws,e,h3,h4⟩:=hb
 cases e
 subst hK
 have:=I.list_inj h1 h3
 subst this
 exact iQ (fun a b c=>h.fn X pins s σ H a b c rfl I) h2 h4
theorem jZ (h:EqK K R k){X:Cx}{A:Around}{pins:List (Addr×Obj)}{s:Shared}{σ:St}{H:Hp}{vs ws:List V}{its its2:List Value}{as bs:List α} (hK:X.K=K) (I:Inv X pins σ H s) (r1:Vals vs its) (r2:Vals ws its2) (p1:Paired (R H) vs as) (p2:Paired (R H) ws bs)
  (hl:its.length=its2.length) (hu:A.units+k<cLine):
  (∀ j (h1:j<its.toArray.size) (h2:j<its2.toArray.size),SeqAt.EqAt A s its.toArray[j] its2.toArray[j] (decide (as[j]?=bs[j]?)))∧(List.range its.toArray.size).all (fun j=>decide (as[j]?=bs[j]?))=decide (as=bs):=by
 have l1:=r1.length
 have l2:=r2.length
 have l3:=Paired.length p1
 have l4:=Paired.length p2
 refine⟨fun j h1 h2=>?_,?_⟩
 ·rw[List.size_toArray]at h1 h2
  obtain⟨x,ex,rx⟩:=r1.at' (i:=j) (u:=its[j]) (by simp)
  obtain⟨y,ey,ry⟩:=r2.at' (i:=j) (u:=its2[j]) (by simp)
  obtain⟨a,ea,ra⟩:=Paired.at p1 ex
  obtain⟨b,eb,rb⟩:=Paired.at p2 ey
  have:=h.eq X A pins s σ H x y _ _ a b hK I rx ry ra rb hu
  rw[ea,eb]
  have e:decide (some a=some b)=decide (a=b):=by
   rw[Bool.eq_iff_iff,decide_eq_true_iff,decide_eq_true_iff]
   exact⟨Option.some.inj,congrArg some⟩
  rw[e]
  simpa using this
 ·rw[List.size_toArray,Bool.eq_iff_iff,List.all_eq_true,decide_eq_true_iff]
  constructor
  ·intro hh
   apply List.ext_getElem?
   intro i
   by_cases hi:i<its.length
   ·exact of_decide_eq_true (hh i (List.mem_range.mpr hi))
   ·rw[List.getElem?_eq_none (by omega),List.getElem?_eq_none (by omega)]
  ·rintro rfl i _
   exact decide_eq_true rfl
theorem oC (h:EqK K R k):EqK K (j7 K R) (k+1) where
 eq:=by
  intro X A pins s σ H x y v u as bs hK I rx ry ha hb hu
  by_cases hxy:x=y
  ·subst hxy
   have e:=qX h hK I ha hb
   subst e
   obtain⟨p,vs,rfl,h1,h2⟩:=ha
   cases rx
   cases ry
   rw[decide_eq_true rfl]
   exact SeqAt.EqAt.same _
  ·obtain⟨p,vs,rfl,h1,h2⟩:=ha
   obtain⟨q,ws,rfl,h3,h4⟩:=hb
   cases rx
   cases ry
   have hne:p≠q:=fun e=>hxy (by rw[e])
   subst hK
   obtain⟨its,r1,pl,hz⟩:=I.list h1
   obtain⟨its2,r2,pl2,hz2⟩:=I.list h3
   refine SeqAt.EqAt.of_refs hne ?_
   have l1:=r1.length
   have l2:=r2.length
   have l3:=Paired.length h2
   have l4:=Paired.length h4
   by_cases hl:its.length=its2.length
   ·obtain⟨e1,e2⟩:=jZ (A:=A.in1) h rfl I r1 r2 h2 h4 hl (by rw[Around.in1_units];omega)
    rw[← e2]
    exact SeqAt.RcAt.lists pl.isList pl2.isList (by simpa using hl) (by omega) e1
   ·have:decide (as=bs)=false:=by
     rw[decide_eq_false_iff_not]
     rintro rfl
     omega
    rw[this]
    exact SeqAt.RcAt.lists_lengths pl.isList pl2.isList (by simpa using hl) (by omega)
 fn:=fun X pins s σ H x as bs hK I ha hb=>qX h hK I ha hb
end
theorem op_neL {α:Type}[DecidableEq α]{R:Hp→V→α→Prop}{k:Nat} (h:EqK X.K R k) (hu:X.A.units+(k+1)<cLine):OpR X (compareOp .NotEq) (fun x y H Q=>∃ as bs,j7 X.K R H x as∧j7 X.K R H y bs∧Q (.bl (!decide (as=bs))) H):=by
 intro pins s σ H x y v u Q I rx ry hw
 obtain⟨as,bs,ha,hb,q⟩:=hw
 obtain⟨p,vs,rfl,h1,h2⟩:=ha
 obtain⟨p',ws,rfl,h3,h4⟩:=hb
 cases rx
 cases ry
 obtain⟨its,r1,pl,hz⟩:=I.list h1
 obtain⟨its2,r2,pl2,hz2⟩:=I.list h3
 have l1:=r1.length
 have l2:=r2.length
 have l3:=Paired.length h2
 have l4:=Paired.length h4
 by_cases hl:its.length=its2.length
 ·obtain⟨e1,e2⟩:=jZ (A:=X.A.in1) h rfl I r1 r2 h2 h4 hl (by rw[Around.in1_units];omega)
  refine SeqAt.RcNeAt.lists pl.isList pl2.isList (by simpa using hl) (by omega) e1 X.prog X.w X.xe _ ?_
  rw[e2]
  exact⟨.bl _,H,I,rfl,q⟩
 ·have:decide (as=bs)=false:=by
   rw[decide_eq_false_iff_not]
   rintro rfl
   omega
  rw[this]at q
  exact SeqAt.RcNeAt.lists_lengths pl.isList pl2.isList (by simpa using hl) (by omega) X.prog X.w X.xe _ ⟨.bl _,H,I,rfl,q⟩
section
variable {prog : Program}{w : World}{A : Around}{E : Value → Shared → Prop}{s : Shared}
end
end
def Df (P:Program)(w:World)(K:PySem.W.Frag)(mg:Str→Option Value)(base:Heap)(k:Nat)(x:Str)(ps:List Str)(sp:Sp):Prop:=
 ∃ f fd,mg x=some (.ref f)∧PySem.W.keepIn K (.ref f)=true∧Binds K fd ps []∧FnOk P w K mg base CX0 k f fd ps sp
def Dm (P:Program)(w:World)(K:PySem.W.Frag)(mg:Str→Option Value)(base:Heap)(k:Nat)(C:Addr)(m:Str)(ps:List Str)(sp:Sp):Prop:=
 ∃ f fd,Cls K C∧pe K C m f∧Binds K fd ps []∧FnOk P w K mg base CX0 k f fd ps sp
def Dk (P:Program)(w:World)(K:PySem.W.Frag)(mg:Str→Option Value)(base:Heap)(k:Nat)(x:Str)(C:Addr)(ps:List Str)(sp:Sp):Prop:=
 ∃ f fd,mg x=some (.ref C)∧Mk K C f∧Binds K fd ps []∧FnOk P w K mg base CX0 k f fd ps sp
section
variable {X : Cx}{k : Nat}{C : Addr}{ps : List Str}{sp : Sp}{x m : Str}{p pos apos : Pos}{e o : Expr}{es : List Expr}{ta : TE}{t : TA}
theorem aA (D:Df X.prog X.w X.K X.mg X.base k x ps sp)(hr:Room k X.A)(hg:Gl X x)
  (ha:PA X (e::es) t) (hdb:(x==("__debug__":Str))=false:=by decide) (he:starEach (e::es) X.env=(false,eval e X.env)::starEach es X.env:=by rfl) (hpl:(backTo pos (starEach es X.env)).any (·.1)=false:=by rfl):
  PE X (.Call (.Name x p) (e::es) [] pos) (qC sp [] E0 t):=by
 obtain⟨f,fd,hm,kp,b,F⟩:=D
 exact v3 F hr hg hm kp b .nil l7 ha hdb he hpl
theorem cB {pl:Sem Bool}(he:PE X o ta)(D:Dm X.prog X.w X.K X.mg X.base k C m ps sp)(hr:Room k X.A)(ha:PA X (e::es) t)
  (hst:starEach (e::es) X.env=(false,eval e X.env)::starEach es X.env:=by rfl) (hpl:(backTo pos (starEach es X.env)).any (·.1)=false:=by rfl)
  (ht:eval (.Call (.Attribute o m apos) (e::es) [] pos) X.env=(do
   let ov ← eval o X.env
   standAt apos.atName
   let (f,first) ← holding [ov] (getMethod ov m pl)
   callWith pos f first (backTo pos (starEach (e::es) X.env)) (backToKw pos (keywordEach [] X.env))):=by rfl):
  PE X (.Call (.Attribute o m apos) (e::es) [] pos) (mX C m sp [] E0 ta t):=by
 obtain⟨f,fd,cl,hm,b,F⟩:=D
 exact uY he cl hm F hr b .nil l7 ha hst hpl ht
theorem jG (D:Dk X.prog X.w X.K X.mg X.base k x C ps sp)(hr:Room (k+1) X.A)(hg:Gl X x)
  (ha:PA X (e::es) t) (hdb:(x==("__debug__":Str))=false:=by decide) (he:starEach (e::es) X.env=(false,eval e X.env)::starEach es X.env:=by rfl) (hpl:(backTo pos (starEach es X.env)).any (·.1)=false:=by rfl):
  PE X (.Call (.Name x p) (e::es) [] pos) (qB C sp [] E0 t):=by
 obtain⟨f,fd,hm,M,b,F⟩:=D
 exact uZ M F hr hg hm b .nil l7 ha hdb he hpl
end
def Fn0 (K:PySem.W.Frag)(x qual:Str)(st:Stmt):Prop:=∃ f fd,PySem.W.nsIn K mainGlobals x=some (some (.ref f))∧Fun K x qual st f fd
theorem aZ {K:PySem.W.Frag}{x qual:Str}{st:Stmt}{f:Addr}{oc:Value}{od an:Option Addr}{osl:Array (Option Value)}{kV doc pm cdv ct:Value} (a:PySem.W.nsIn K mainGlobals x=some (some (.ref f)))
  (l:K.lookup f=some ⟨oc,od,.func (PySem.W.fnOf x qual (aQ st) (aJ st) (ah st) .none kV doc pm an cdv ct),osl⟩)
  (c:PySem.W.codeIn K cdv qual=true) (k:PySem.W.keepIn K (.ref f)=true):Fn0 K x qual st:=⟨f,_,a,mJ l c k⟩
def Me0 (K:PySem.W.Frag)(C:Addr)(m qual:Str)(st:Stmt):Prop:=∃ f fd,pe K C m f∧Fun K m qual st f fd
theorem bf {K:PySem.W.Frag}{C:Addr}{m qual:Str}{st:Stmt}{f:Addr}{oc:Value}{od an:Option Addr}{osl:Array (Option Value)}{kV doc pm cdv ct:Value} (a:PySem.W.findIn K (.ref C) m=some (some (.ref f))) (i:PySem.W.isFn K (.ref f)=true)
  (l:K.lookup f=some ⟨oc,od,.func (PySem.W.fnOf m qual (aQ st) (aJ st) (ah st) .none kV doc pm an cdv ct),osl⟩)
  (c:PySem.W.codeIn K cdv qual=true) (k:PySem.W.keepIn K (.ref f)=true):Me0 K C m qual st:=⟨f,_,⟨a,i,k⟩,mJ l c k⟩
theorem az {H H2:Hp}{T:Addr}{o:HO} (e:Same H H2) (h:H2 T=Option.none):Same H (upd H2 T o):=fun b u hb=>by
 rw[aa (ag (e b u hb) h)]
 exact e b u hb
theorem aw {H H2:Hp}{T:Addr}{o:HO} (e:Same H H2) (h:H T=Option.none):Same H (upd H2 T o):=fun b u hb=>by
 rw[aa (ag hb h)]
 exact e b u hb
def Rw (H:Hp)(x:V)(r:List Int):Prop:=∃ a,x=.ref a∧H a=some (.lst (r.map V.int))
theorem Rw.mono {H H':Hp}{x:V}{r:List Int} (e:Same H H') (h:Rw H x r):Rw H' x r:=let ⟨a,q1,q2⟩:=h;⟨a,q1,e _ _ q2⟩
def RwN (H H':Hp)(x:V)(r:List Int):Prop:=∃ a,x=.ref a∧H a=none∧H' a=some (.lst (r.map V.int))
def TbN (H H':Hp)(l:Addr)(t:List (List Int)):Prop:=H l=none∧∃ xs,H' l=some (.lst xs)∧Paired (RwN H H') xs t
theorem RwN.rw {H H':Hp}{x:V}{r:List Int} (h:RwN H H' x r):Rw H' x r:=let ⟨a,q1,_,q2⟩:=h;⟨a,q1,q2⟩
theorem Paired.snoc' {α β:Type}{F:α→β→Prop}{a:α}{b:β}{l₁:List α}{l₂:List β} (r:Paired F l₁ l₂) (h:F a b):Paired F (l₁++[a]) (l₂++[b]):=Paired.snoc r h
theorem iS:∀ (r:List Int),Paired (fun (x:V) n=>x=V.int n) (r.map V.int) r
 | []=>.nil
 | _::r=>.cons rfl (iS r)
theorem gH {xs:List Int}{i:Nat}{x:V} (h:(xs.map V.int)[i]?=some x):∃ a,xs[i]?=some a∧x=.int a:=by
 rw[List.getElem?_map]at h
 cases e:xs[i]? with
 | none=>rw[e]at h;cases h
 | some z=>rw[e]at h;exact⟨z,rfl,(Option.some.inj h).symm⟩
theorem bZ {α:Type}(f:Nat→α)(i:Nat):(List.range (i+1)).map f=(List.range i).map f++[f i]:=by
 rw[List.range_succ,List.map_append];rfl
section
variable {js : List Nat}{te : TE}{σ : St}{F : Addr → Hp → Prop}{H : Hp}
abbrev bM (σ:St)(js:List Nat):St:=js.map fun j=>(σ[j]?).join
theorem gN {K:PySem.W.Frag}{a:Addr}{xs:List V} (g:Nat→Int) (ha:H a=some (.lst xs)) (hz:xs.length≤1000)
  (hs:∀ i x H2,xs[i]?=some x→Same H H2→te (some x::bM σ js) H2 fun v H5=>v=.int (g i)∧Same H2 H5)
  (hd:∀ l H',H l=none→Same H H'→H' l=some (.lst (((List.range xs.length).map g).map V.int))→F l H'):bw 1 js (bg 0) i8 te σ F (Itl K a) H:=by
 intro l hl0
 refine⟨fun i m σ' H2=>m=xs.length - i∧i≤xs.length∧(∃ o,σ'=o::bM σ js)∧Same H H2∧H2 l=some (.lst (((List.range i).map g).map V.int)),⟨xs.length,by simp,Nat.zero_le _,⟨none,rfl⟩,az (Same.refl _) hl0,a9⟩,?_⟩
 rintro i m σ' H2 ⟨rfl,hi,⟨o,rfl⟩,e,hl⟩
 have q:SqL K H2 a xs:=SqL.of (e _ _ ha)
 by_cases hlt:i<xs.length
 ·refine .inr ⟨⟨xs,xs[i],q,by simp[hlt]⟩,fun x H3 y=>?_⟩
  obtain⟨eH,y⟩:=y
  subst eH
  have ex:=y xs q
  refine⟨fun _=>False,fun v H5=>v=.int (g i)∧Same _ H5,fun H4 p4=>p4.elim,fun v H5 ⟨ev,e5⟩=>?_,hs i x _ ex e⟩
  subst ev
  refine⟨_,e5 _ _ hl,by simp only[List.length_map,List.length_range];exact Nat.lt_of_le_of_lt hi (Nat.lt_of_le_of_lt hz (by decide)),_,?_,rfl,hlt,⟨some x,rfl⟩,aw (e.trans e5) hl0,?_⟩
  ·omega
  ·rw[a9,bZ];simp
 ·have ei:i=xs.length:=by omega
  subst ei
  exact .inl ⟨⟨xs,q,Nat.le_refl _⟩,hd l H2 hl0 e hl⟩
theorem dk {lo:Int}{n:Nat} (g:Nat→Int) (hz:n≤1000)
  (hs:∀ i H2,i<n→Same H H2→te (some (.int (lo+i))::bM σ js) H2 fun v H5=>v=.int (g i)∧Same H2 H5)
  (hd:∀ l H',H l=none→Same H H'→H' l=some (.lst (((List.range n).map g).map V.int))→F l H'):bw 1 js (bg 0) i8 te σ F (Itr lo n) H:=by
 intro l hl0
 refine⟨fun i m σ' H2=>m=n - i∧i≤n∧(∃ o,σ'=o::bM σ js)∧Same H H2∧H2 l=some (.lst (((List.range i).map g).map V.int)),⟨n,by simp,Nat.zero_le _,⟨none,rfl⟩,az (Same.refl _) hl0,a9⟩,?_⟩
 rintro i m σ' H2 ⟨rfl,hi,⟨o,rfl⟩,e,hl⟩
 by_cases hlt:i<n
 ·refine .inr ⟨hlt,fun x H3 y=>?_⟩
  obtain⟨eH,y⟩:=y
  subst eH
  subst y
  refine⟨fun _=>False,fun v H5=>v=.int (g i)∧Same _ H5,fun H4 p4=>p4.elim,fun v H5 ⟨ev,e5⟩=>?_,hs i _ hlt e⟩
  subst ev
  refine⟨_,e5 _ _ hl,by simp only[List.length_map,List.length_range];exact Nat.lt_of_le_of_lt hi (Nat.lt_of_le_of_lt hz (by decide)),_,?_,rfl,hlt,⟨_,rfl⟩,aw (e.trans e5) hl0,?_⟩
  ·omega
  ·rw[a9,bZ];simp
 ·have ei:i=n:=by omega
  subst ei
  exact .inl ⟨Nat.le_refl _,hd l H2 hl0 e hl⟩
theorem sH {K:PySem.W.Frag}{a b:Addr}{xs ys:List V} (g:Nat→Int) (ha:H a=some (.lst xs)) (hb:H b=some (.lst ys)) (hz:xs.length≤1000)
  (hs:∀ i x y T H2,xs[i]?=some x→ys[i]?=some y→Same H H2→H2 T=none→te (some x::some y::bM σ js) (upd H2 T (.tup [x,y])) fun v H5=>v=.int (g i)∧Same H2 H5)
  (hd:∀ l H',H l=none→Same H H'→H' l=some (.lst (((List.range (min xs.length ys.length)).map g).map V.int))→F l H'):bw 2 js (ql K 2 (dR (bg 0) (dR (bg 1) sB))) i8 te σ F (Itz K a b) H:=by
 intro l hl0
 refine⟨fun i m σ' H2=>m=min xs.length ys.length - i∧i≤min xs.length ys.length∧(∃ o1 o2,σ'=o1::o2::bM σ js)∧Same H H2∧H2 l=some (.lst (((List.range i).map g).map V.int)),⟨_,rfl,Nat.zero_le _,⟨none,none,rfl⟩,az (Same.refl _) hl0,a9⟩,?_⟩
 rintro i m σ' H2 ⟨rfl,hi,⟨o1,o2,rfl⟩,e,hl⟩
 have q1:SqL K H2 a xs:=SqL.of (e _ _ ha)
 have q2:SqL K H2 b ys:=SqL.of (e _ _ hb)
 by_cases hlt:i<min xs.length ys.length
 ·have l1:i<xs.length:=by omega
  have l2:i<ys.length:=by omega
  refine .inr ⟨⟨xs,ys,xs[i],ys[i],q1,q2,by simp[l1],by simp[l2]⟩,fun v H3 yl=>?_⟩
  obtain⟨T,hT,rfl,x,y,ex,ey,rfl⟩:=yl
  refine⟨T,[x,y],rfl,SqT.of a9,rfl,x,[y],rfl,y,[],rfl,rfl,?_⟩
  refine⟨fun _=>False,fun v H5=>v=.int (g i)∧Same H2 H5,fun H4 p4=>p4.elim,fun v H5 ⟨ev,e5⟩=>?_,hs i x y T H2 (ex xs q1) (ey ys q2) e hT⟩
  subst ev
  refine⟨_,e5 _ _ hl,by simp only[List.length_map,List.length_range];exact Nat.lt_of_lt_of_le l1 (Nat.le_trans hz (by decide)),_,?_,rfl,hlt,⟨_,_,rfl⟩,aw (e.trans e5) hl0,?_⟩
  ·omega
  ·rw[a9,bZ];simp
 ·have ei:i=min xs.length ys.length:=by omega
  subst ei
  exact .inl ⟨⟨xs,ys,q1,q2,by omega⟩,hd l H2 hl0 e hl⟩
theorem oV {lo:Int}{n:Nat} (g:Nat→List Int) (hz:n≤1000)
  (hs:∀ i H2,i<n→Same H H2→te (some (.int (lo+i))::bM σ js) H2 fun v H5=>RwN H2 H5 v (g i)∧Same H2 H5)
  (hd:∀ l H',TbN H H' l ((List.range n).map g)→Same H H'→F l H'):bw 1 js (bg 0) i8 te σ F (Itr lo n) H:=by
 intro l hl0
 refine⟨fun i m σ' H2=>m=n - i∧i≤n∧(∃ o,σ'=o::bM σ js)∧Same H H2∧∃ vs,H2 l=some (.lst vs)∧Paired (fun x r=>RwN H H2 x r∧x≠.ref l) vs ((List.range i).map g),⟨n,by simp,Nat.zero_le _,⟨none,rfl⟩,az (Same.refl _) hl0,[],a9,.nil⟩,?_⟩
 rintro i m σ' H2 ⟨rfl,hi,⟨o,rfl⟩,e,vs,hl,hp⟩
 by_cases hlt:i<n
 ·refine .inr ⟨hlt,fun x H3 y=>?_⟩
  obtain⟨eH,y⟩:=y
  subst eH
  subst y
  refine⟨fun _=>False,fun v H5=>RwN _ H5 v (g i)∧Same _ H5,fun H4 p4=>p4.elim,fun v H5 ⟨⟨c,ec,hc0,hc⟩,e5⟩=>?_,hs i _ hlt e⟩
  subst ec
  have hlen:vs.length=i:=by have:=Paired.length hp;simpa using this
  have hcl:c≠l:=(ag hl hc0).symm
  refine⟨_,e5 _ _ hl,by rw[hlen];exact Nat.lt_of_le_of_lt hi (Nat.lt_of_le_of_lt hz (by decide)),_,?_,rfl,hlt,⟨_,rfl⟩,aw (e.trans e5) hl0,_,a9,?_⟩
  ·omega
  ·rw[bZ]
   refine Paired.snoc' (Paired.mapP hp fun z r ⟨⟨d,h1,h2,h3⟩,h4⟩=>⟨⟨d,h1,h2,?_⟩,h4⟩) ⟨⟨c,rfl,e.free hc0,?_⟩,fun z=>hcl (by cases z;rfl)⟩
   ·subst h1
    rw[aa (fun z=>h4 (by rw[z]))]
    exact e5 _ _ h3
   ·rw[aa hcl];exact hc
 ·have ei:i=n:=by omega
  subst ei
  exact .inl ⟨Nat.le_refl _,hd l H2 ⟨hl0,vs,hl,Paired.mapP hp fun _ _ z=>z.1⟩ e⟩
end
section
variable (K : PySem.W.Frag){X : Cx}{pos : Pos}
theorem cg (h:X.K=K:=by rfl):IxR X (rIxL K):=h▸vj
theorem su (h:X.K=K:=by rfl):IxR X (rIxT K):=h▸ix_tup
theorem cS {tg l:Expr}{tl:TE} (hl:PE X l tl) (h:X.K=K:=by rfl):PI X tg l (u7 K tl):=h▸uW hl
theorem pizK {elts:List Expr}{x1:Nat}{tpos:Pos}{e1 e2:Expr}{ta:TA}{p:Pos} (hg:Gl X "zip") (hm:X.mg "zip"=none) (ha:PA X [e1,e2] ta) (h:X.K=K:=by rfl)
  (hs:starEach [e1,e2] X.env=[(false,eval e1 X.env),(false,eval e2 X.env)]:=by rfl) (hs2:starEach [e2] X.env=[(false,eval e2 X.env)]:=by rfl):
  PI X (.Tuple elts x1 tpos) (.Call (.Name "zip" p) [e1,e2] [] pos) (iZip K ta):=h▸pi_zip hg hm ha hs hs2
theorem gE {es:List Expr}{k:Nat}{t:TGs}{n:Nat} (hc:X.calm=true) (hh:PGs X es t) (h:X.K=K:=by rfl)
  (hn:(assignEach es X.env).length=n:=by rfl) (hst:(assignEach es X.env).findIdx? (·.1)=none:=by rfl):PG X (.Tuple es k pos) (ql K n t):=h▸pg_tup hc hh hn hst
theorem j6 (h:X.K=K:=by rfl):CallR X (.builtin "len") (fun xs H Q=>∃ p ys,xs=[.ref p]∧(SqL K H p ys∨SqT K H p ys)∧Q (.int ys.length) H):=h▸mR
theorem vm (h:X.K=K:=by rfl):CallR X (.builtin "isinstance") (fun xs H Q=>∃ x t T b,xs=[x,.ty T]∧i7 K H x t∧PySem.W.kitOne K t (.type T)=some b∧Q (.bl b) H):=h▸ur
theorem fW {e:Expr}{f:Str}{ta:TE} (he:PE X e ta) (hb:attributeBase e f X.env (eval e X.env)=eval e X.env) (h:X.K=K:=by rfl):PE X (.Attribute e f pos) (tFld K ta f):=h▸pe_fld he hb
theorem listK (h:X.K=K:=by rfl):CallR X (.type "list") (fun xs H Q=>∃ p ys,xs=[.ref p]∧(SqL K H p ys∨SqT K H p ys)∧∀ l,H l=none→Q (.ref l) (upd H l (.lst ys))):=h▸mP
theorem sumK (hc:X.calm=true)(h:X.K=K:=by rfl):CallR X (.builtin "sum") (fun xs H Q=>∃ (p:Addr)(ns:List Int),xs=[.ref p]∧SqL K H p (ns.map V.int)∧Q (.int ns.sum) H):=h▸sJ hc
theorem inK (h:X.K=K:=by rfl):OpR X (compareOp .In) (rIn K false):=h▸rX
theorem tS (h:X.K=K:=by rfl):OpR X (compareOp .NotIn) (rIn K true):=h▸my
theorem bm0K {o:Expr}{to:TE}{name:Str}{apos cpos:Pos}{T id:String}{r:V→List V→Hp→VK→Prop} (pa:PlainAttrs T) (slot:Slot T name id) (hty:typeOf (.builtin id)=pure (.type "method_descriptor")) (hm:MtR X id r) (ho:PE X o to) (h:X.K=K:=by rfl)
  (hbase:attributeBase o name X.env (eval o X.env)=eval o X.env:=by rfl) (hline:(apos.endLine==cpos.line)=true:=by rfl):PE X (.Call (.Attribute o name apos) [] [] cpos) (tBM0 K T r to):=h▸pe_bm0 pa slot hty hm ho hbase hline
theorem bmK {o e:Expr}{es:List Expr}{to:TE}{t:TA}{name:Str}{apos cpos:Pos}{T id:String}{r:V→List V→Hp→VK→Prop} (pa:PlainAttrs T) (slot:Slot T name id) (hty:typeOf (.builtin id)=pure (.type "method_descriptor")) (hm:MtR X id r) (ho:PE X o to) (ha:PA X (e::es) t) (h:X.K=K:=by rfl)
  (hbase:attributeBase o name X.env (eval o X.env)=eval o X.env:=by rfl)
  (hfew:((backTo cpos (starEach (e::es) X.env)).all (fun x=>!x.1)&&(backToKw cpos (keywordEach [] X.env)).all (fun x=>x.1.isSome)
   && decide ((e::es).length+([]:List Keyword).length+(if ([]:List Keyword).isEmpty then 0 else 1)<30))=true:=by rfl)
  (hline:(apos.endLine==cpos.line)=true:=by rfl) (hs:starEach (e::es) X.env=(false,eval e X.env)::starEach es X.env:=by rfl) (hplain:(backTo cpos (starEach es X.env)).any (·.1)=false:=by rfl):
  PE X (.Call (.Attribute o name apos) (e::es) [] cpos) (tBM K T r to t):=h▸pe_bm pa slot hty hm ho ha hbase hfew hline hs hplain
theorem neLK {α:Type}[DecidableEq α]{R:Hp→V→α→Prop}{k:Nat} (hK:EqK K R k) (hu:X.A.units+(k+1)<cLine) (h:X.K=K:=by rfl):OpR X (compareOp .NotEq) (fun x y H Q=>∃ as bs,j7 K R H x as∧j7 K R H y bs∧Q (.bl (!decide (as=bs))) H):=by
 subst h;exact op_neL hK hu
end
def tIfJ (c:TT)(t u:TS):TS:=fun D σ H=>∃ J:St→Hp→Prop,(∀ σ' H',J σ' H'→D.nx σ' H')∧c σ H fun b H1=>if b=true then t { D with nx:=J } σ H1 else u { D with nx:=J } σ H1
theorem cf {X:Cx}{pos:Pos}{t u:TS}{c:Expr}{a b:List Stmt}{tc:TT} (hc:PT X c tc) (ha:PSs X a t) (hb:PSs X b u):PS X (.If c a b pos) (tIfJ tc t u):=by
 intro pins s σ H D I h
 obtain⟨J,hJ,h⟩:=h
 refine thn (bB (pos:=pos) hc ha hb pins s σ H { D with nx:=J } I h) fun f s1 q=>?_
 cases f with
 | next=>obtain⟨σ',H',I',q⟩:=q;exact⟨σ',H',I',hJ _ _ q⟩
 | brk=>exact q
 | cont=>exact q
 | ret v=>exact q
section
variable {js : List Nat}{te : TE}{σ : St}{F : Addr → Hp → Prop}{H : Hp}
end
section
variable {X : Cx}{es : List Expr}{pos : Pos}{t : TA}
def NewQ (H:Hp)(o:HO)(Q:VK):Prop:=∀ p H2,Same H H2→H p=none→H2 p=some o→Q (.ref p) H2
theorem NewQ.at {H:Hp}{o:HO}{Q:VK} (h:NewQ H o Q) {p:Addr} (hp:H p=none):Q (.ref p) (upd H p o):=h p _ (az (Same.refl _) hp) hp a9
def tTupS (t:TA):TE:=fun σ H Q=>t σ H fun xs H1=>xs.length≤sizeLine∧NewQ H1 (.tup xs) Q
def tLstS (t:TA):TE:=fun σ H Q=>t σ H fun xs H1=>xs.length≤sizeLine∧NewQ H1 (.lst xs) Q
theorem c6 {x1}(h:PA X es t):PE X (.Tuple es x1 pos) (tTupS t):=by
 intro pins s σ H Q I hq
 refine wpAny_Tuple_spliced (thn (h pos pins s σ H _ I hq) fun us s1 ⟨xs,H1,I1,r,z,q⟩=>⟨by rw[← r.length];exact z,?_⟩)
 have hf:H1 s1.heap.objs.size=none:=I1.hok.fresh (Nat.le_refl _)
 refine⟨.ref s1.heap.objs.size,upd H1 s1.heap.objs.size (.tup xs),I1.laid (t':=s1.toks) (fun b u e=>Heap.get?_push_of_some _ e) (Nat.le_refl _) ?_,rfl,q.at hf⟩
 exact⟨z,us,r,⟨_,Heap.get?_push_size _ rfl,rfl,_,rfl⟩⟩
theorem bi (h:PA X es t):PE X (.List es pos) (tLstS t):=by
 intro pins s σ H Q I hq
 refine wpAny_List_spliced (thn (h pos pins s σ H _ I hq) fun us s1 ⟨xs,H1,I1,r,z,q⟩=>⟨by rw[← r.length];exact z,?_⟩)
 have hf:H1 s1.heap.objs.size=none:=I1.hok.fresh (Nat.le_refl _)
 refine⟨.ref s1.heap.objs.size,upd H1 s1.heap.objs.size (.lst xs),I1.laid (t':=s1.toks) (fun b u e=>Heap.get?_push_of_some _ e) (Nat.le_refl _) ?_,rfl,q.at hf⟩
 exact⟨z,us,0,r,Heap.get?_push_size _ rfl⟩
theorem OpR.imp {f:Value→Value→Sem Value}{r r':R2} (h:OpR X f r) (k:∀ x y H Q,r' x y H Q→r x y H Q):OpR X f r':=fun pins s σ H x y v u Q I rx ry q=>h pins s σ H x y v u Q I rx ry (k _ _ _ _ q)
theorem SlR.imp {r r':V→Option Int→Option Int→Hp→VK→Prop}(h:SlR X r)(k:∀ x l u H Q,r' x l u H Q→r x l u H Q):SlR X r':=fun pins s σ H x v vl vu lo hi sl Q I rx hs pl pu q=>h pins s σ H x v vl vu lo hi sl Q I rx hs pl pu (k _ _ _ _ _ q)
theorem CallR.imp {f:Value}{r r':List V→Hp→VK→Prop} (h:CallR X f r) (k:∀ xs H Q,r' xs H Q→r xs H Q):CallR X f r':=fun pins s σ H xs us Q I rx q=>h pins s σ H xs us Q I rx (k _ _ _ q)
def rCatS:R2:=fun x y H Q=>∃ l b xs zs,x=.ref l∧y=.ref b∧H l=some (.lst xs)∧H b=some (.lst zs)∧xs.length+zs.length≤sizeLine∧NewQ H (.lst (xs++zs)) Q
theorem jk:OpR X (binaryOp .Add) rCatS:=op_cat.imp fun _ _ _ _ ⟨l,b,xs,zs,h1,h2,h3,h4,h5,q⟩=>⟨l,b,xs,zs,h1,h2,h3,h4,h5,fun _ hp=>q.at hp⟩
def rSlLS (K:PySem.W.Frag):V→Option Int→Option Int→Hp→VK→Prop:=fun x lo hi H Q=>∃ a xs,x=.ref a∧SqL K H a xs∧NewQ H (.lst (cm xs lo hi)) Q
theorem mY (K:PySem.W.Frag)(h:X.K=K:=by rfl):SlR X (rSlLS K):=by
 subst h
 exact sl_list.imp fun _ _ _ _ _ ⟨a,xs,h1,h2,q⟩=>⟨a,xs,h1,h2,fun _ hp=>q.at hp⟩
theorem qU (K:PySem.W.Frag)(h:X.K=K:=by rfl):CallR X (.type "list") (fun xs H Q=>∃ p ys,xs=[.ref p]∧(SqL K H p ys∨SqT K H p ys)∧NewQ H (.lst ys) Q):=
 (listK K h).imp fun _ _ _ ⟨p,ys,h1,h2,q⟩=>⟨p,ys,h1,h2,fun _ hp=>q.at hp⟩
end
theorem eD {K:PySem.W.Frag}{H:Hp}{a:Addr}{r:List Int} (h:H a=some (.lst (r.map V.int))):j7 K isI H (.ref a) r:=⟨a,_,rfl,SqL.of h,iS r⟩
theorem Rw.ls {K:PySem.W.Frag}{H:Hp}{x:V}{r:List Int} (h:Rw H x r):j7 K isI H x r:=by
 obtain⟨a,rfl,h⟩:=h
 exact eD h
def hide (l:Addr)(H:Hp):Hp:=fun b=>if b=l then none else H b
theorem dj {l b:Addr}{H:Hp} (h:b≠l):hide l H b=H b:=if_neg h
theorem fR {l:Addr}{H:Hp}:Same (hide l H) H:=fun b o h=>by
 by_cases e:b=l
 ·rw[hide,if_pos e]at h;cases h
 ·rwa [dj e]at h
theorem lC {l:Addr}{H H':Hp} (e:Same H H'):Same (hide l H) (hide l H'):=fun b o h=>by
 by_cases q:b=l
 ·rw[hide,if_pos q]at h;cases h
 ·rw[dj q]at h ⊢;exact e _ _ h
theorem oy {l:Addr}{H:Hp}{o:HO}:hide l (upd H l o)=hide l H:=by
 funext b
 by_cases q:b=l
 ·rw[hide,hide,if_pos q,if_pos q]
 ·rw[dj q,dj q,aa q]
theorem fv {l b:Addr}{H H2:Hp}{o:HO} (hl:H l≠none) (hb:H b=none) (h:H2 b=some o):hide l H2 b=some o:=by
 rw[dj (fun z=>hl (by rw[← z];exact hb))];exact h
section
variable {js : List Nat}{te : TE}{σ : St}{F : Addr → Hp → Prop}{H : Hp}
theorem qo {K:PySem.W.Frag}{a:Addr}{xs:List V} (R:Nat→Hp→V→Prop) (mono:∀ i H H' v,Same H H'→R i H v→R i H' v) (ha:SqL K H a xs) (hz:xs.length≤1000)
  (hs:∀ i x H2,xs[i]?=some x→Same H H2→te (some x::bM σ js) H2 fun v H5=>(∀ l,H l=none→H2 l≠none→R i (hide l H5) v)∧Same H2 H5)
  (hd:∀ l H' vs,H l=none→Same H H'→H' l=some (.lst vs)→vs.length=xs.length→(∀ i v,vs[i]?=some v→R i (hide l H') v)→F l H'):bw 1 js (bg 0) i8 te σ F (Itl K a) H:=by
 intro l hl0
 refine⟨fun i m σ' H2=>m=xs.length - i∧i≤xs.length∧(∃ o,σ'=o::bM σ js)∧Same H H2∧∃ vs:List V,vs.length=i∧H2 l=some (.lst vs)∧∀ i v,vs[i]?=some v→R i (hide l H2) v,⟨xs.length,by simp,Nat.zero_le _,⟨none,rfl⟩,az (Same.refl _) hl0,[],rfl,a9,fun i v h=>by simp at h⟩,?_⟩
 rintro i m σ' H2 ⟨rfl,hi,⟨o,rfl⟩,e,vs,hlen,hl,hp⟩
 have q:SqL K H2 a xs:=e.seq ha
 by_cases hlt:i<xs.length
 ·refine .inr ⟨⟨xs,xs[i],q,by simp[hlt]⟩,fun x H3 y=>?_⟩
  obtain⟨eH,y⟩:=y
  subst eH
  have ex:=y xs q
  refine⟨fun _=>False,fun v H5=>(∀ l,H l=none→H3 l≠none→R i (hide l H5) v)∧Same H3 H5,fun H4 p4=>p4.elim,fun v H5 ⟨pv,e5⟩=>?_,hs i x _ ex e⟩
  refine⟨_,e5 _ _ hl,by rw[hlen];exact Nat.lt_of_le_of_lt hi (Nat.lt_of_le_of_lt hz (by decide)),_,?_,rfl,hlt,⟨_,rfl⟩,aw (e.trans e5) hl0,vs++[v],by rw[List.length_append,hlen];rfl,a9,fun j w hj=>?_⟩
  ·omega
  ·rw[oy]
   by_cases c:j<vs.length
   ·rw[List.getElem?_append_left c]at hj
    exact mono _ _ _ _ (lC e5) (hp j w hj)
   ·rw[List.getElem?_append_right (by omega)]at hj
    by_cases c2:j - vs.length=0
    ·rw[c2]at hj
     have:v=w:=by simpa using hj
     have ej:j=i:=by omega
     rw[ej,← this]
     exact pv l hl0 (by rw[hl];exact fun z=>nomatch z)
    ·rw[List.getElem?_eq_none (by simp;omega)]at hj;cases hj
 ·have ei:i=xs.length:=by omega
  subst ei
  exact .inl ⟨⟨xs,q,Nat.le_refl _⟩,hd l H2 vs hl0 e hl hlen hp⟩
end
theorem iteNN {c A B:Prop}[Decidable c](hc:¬ c)(h:A):if (!decide c)=true then A else B:=by
 rw[decide_eq_false hc]
 exact ci h
section
variable {js : List Nat}{te : TE}{σ : St}{F : Addr → Hp → Prop}{H : Hp}
end
end L2
namespace L2
open PySem
def toldC (M:Model)(Γ:Ctx)(p:Pos)(k:Result→Sem Fin)(h:Option Value)(g:Bool)(l:List Value)(e:End)(s':Shared)(s1:Shared):End→Prop
 | .ret r=>Runs M Γ p (k r) [] s1 e s'
 | .susp v g0 l0 k0 c0 p0 fs=>e=.susp v g0 l0 k0 c0 p0 (fs++[.ret k h g l Γ.code p []])∧s'=s1
def toldR (M:Model)(Γ:Ctx)(r:Result)(fs:List Frame)(e:End)(s':Shared)(s1:Shared):Frame→Prop
 | .ret k _ _ _ c1 p1 _=>Runs M (Γ.goto c1) p1 (k r) fs s1 e s'
 | .gen g k _ c1 p1=>Runs M (Γ.goto c1) p1 (k (End.ret r).result) fs (s1.setGen g .finished) e s'
def toldF (M:Model)(Γ:Ctx)(F:Frame)(fs:List Frame)(e:End)(s':Shared)(s1:Shared):End→Prop
 | .ret r=>toldR M Γ r fs e s' s1 F
 | .susp v g0 l0 k0 c0 p0 fs0=>∀ o,splitAtGen (F::fs)=o→match o with
  | none=>e=.susp v g0 l0 k0 c0 p0 (fs0++F::fs)∧s'=s1
  | some (pre,(g,k,c1,p1),rest)=>Runs M (Γ.goto c1) p1 (k (.yielded v)) rest (s1.setGen g (End.susp v g0 l0 k0 c0 p0 (fs0++pre)).genState) e s'
def toldT (M:Model)(Γ:Ctx)(p:Pos)(s:Shared)(e:End)(s':Shared):Sem Fin→Prop
 | .pure (.done f)=>e=.ret (.ok f)∧s'=s
 | .pure (.again c)=>Runs M (Γ.goto c) p (M.den c) [] s e s'
 | .raise x=>e=.ret (.error x)∧s'=s
 | .rule _ k=>Runs M Γ p (k ()) [] s e s'
 | .at p' k=>Runs M Γ p' (k ()) [] s e s'
 | .load a _ k=>∀ o,s.heap.get? a=some o→Runs M Γ p (k o) [] s e s'
 | .update a _ f k=>Runs M Γ p (k ()) [] { s with heap:=s.heap.update a f } e s'
 | .loadIfAlive a k=>Runs M Γ p (k (s.heap.get? a)) [] s e s'
 | .point _ k=>Runs M Γ p (k ()) [] s e s'
 | .alloc o k=>Runs M Γ p (k s.heap.objs.size) [] { s with heap:=s.heap.push o } e s'
 | .fresh k=>Runs M Γ p (k s.toks) [] { s with toks:=s.toks+1 } e s'
 | .ask k=>Runs M Γ p (k ⟨M.prog,M.w.params⟩) [] s e s'
 | .choose src n k=>Runs M Γ p (k (M.w.draws src (s.drawn.get src) % n)) [] { s with drawn:=s.drawn.bump src } e s'
 | .os q _ k=>Runs M Γ p (k (Os.step s.os q).2) [] { s with os:=(Os.step s.os q).1 } e s'
 | .handled own k=>Runs M Γ p (k (if own then Γ.own else Γ.handled)) [] s e s'
 | .genState g k=>∀ st,s.gens[g]?=some st→Runs M Γ p (k st.seen) [] s e s'
 | .stack k=>Runs M Γ p (k ((Γ.code,p)::Γ.below)) [] s e s'
 | .thread k=>Runs M Γ p (k 0) [] s e s'
 | .newGen c k=>Runs M Γ p (k s.gens.size) [] { s with gens:=s.gens.push (.fresh c) } e s'
 | .call c h g l k=>∃ E s1,Runs M (Γ.enter c h p) p (M.den c) [] s E s1∧toldC M Γ p k h g l e s' s1 E
 | .yield v g l k=>e=.susp v g l k Γ.code p []∧s'=s
 | .resume g r _ k=>∃ res s1,Wakes M Γ p g r s res s1∧Runs M Γ p (k res) [] s1 e s'
 | _=>True
def told (M:Model)(Γ:Ctx)(p:Pos)(t:Sem Fin)(s:Shared)(e:End)(s':Shared):List Frame→Prop
 | []=>toldT M Γ p s e s' t
 | F::fs=>∃ E s1,Runs M (Γ.over (F::fs)) p t [] s E s1∧toldF M Γ F fs e s' s1 E
def sS (M:Model)(Γ:Ctx)(p:Pos)(g:Nat)(s:Shared)(res:GenResult)(s':Shared)(c:Code):Resume→Prop
 | .send .none=>∃ e₁ s₁,Runs M (Γ.wake c p) p (M.den c) [] (s.setGen g .running) e₁ s₁∧e₁.quiet=true∧res=e₁.result∧s'=s₁.setGen g e₁.genState
 | .send _=>res=.justStarted∧s'=s
 | .throw x=>res=.raised x∧s'=s.setGen g .finished
def sT (M:Model)(Γ:Ctx)(p:Pos)(g:Nat)(r:Resume)(s:Shared)(res:GenResult)(s':Shared):GenState→Prop
 | .fresh c=>sS M Γ p g s res s' c r
 | .suspended k₀ _ c₀ p₀ fs _=>∃ e₁ s₁,Runs M (Γ.wake c₀ p) p₀ (k₀ r) fs (s.setGen g .running) e₁ s₁∧e₁.quiet=true∧res=e₁.result∧s'=s₁.setGen g e₁.genState
 | .running=>res=.running∧s'=s
 | .finished=>res=.finished∧s'=s
theorem kM {M:Model}{Γ:Ctx}{p:Pos}{g:Nat}{r:Resume}{s:Shared}{res:GenResult}{s':Shared}{st:GenState} (h:s.gens[g]?=some st):Wakes M Γ p g r s res s' ↔ sT M Γ p g r s res s' st:=by
 unfold Wakes
 rw[h]
 cases st <;> exact Iff.rfl
theorem dG {M:Model}{Γ:Ctx}{p:Pos}{g:Nat}{r:Resume}{s:Shared}{res:GenResult}{s':Shared}{st:GenState} (h:s.gens[g]?=some st) (x:Wakes M Γ p g r s res s'):sT M Γ p g r s res s' st:=(kM h).1 x
theorem dS {M:Model}{Γ:Ctx}{p:Pos}{g:Nat}{r:Resume}{s:Shared}{res:GenResult}{s':Shared}{st:GenState} (h:s.gens[g]?=some st) (x:sT M Γ p g r s res s' st):Wakes M Γ p g r s res s':=(kM h).2 x
theorem ju {M:Model}{Γ:Ctx}{p:Pos}{g:Nat}{s:Shared}{res:GenResult}{s':Shared}{c:Code}{v:Value} (hv:v≠.none):sS M Γ p g s res s' c (.send v) ↔ (res=.justStarted∧s'=s):=by
 unfold sS
 split
 ·next h=>cases h;exact absurd rfl hv
 ·exact Iff.rfl
 ·next h=>cases h
theorem ar {M:Model}{Γ:Ctx}{p:Pos}{t:Sem Fin}{fs:List Frame}{s:Shared}{e:End}{s':Shared} (h:Runs M Γ p t fs s e s'):told M Γ p t s e s' fs:=by
 cases h with
 | done=>exact⟨rfl,rfl⟩
 | raise=>exact⟨rfl,rfl⟩
 | again _ b=>exact b
 | rule b=>exact b
 | «at» b=>exact b
 | load g b=>exact fun o h=>Option.some.inj (g.symm.trans h)▸b
 | update _ b=>exact b
 | loadIfAlive b=>exact b
 | point b=>exact b
 | alloc b=>exact b
 | fresh b=>exact b
 | ask b=>exact b
 | choose _ b=>exact b
 | os b=>exact b
 | handled b=>exact b
 | genState g b=>exact fun o h=>Option.some.inj (g.symm.trans h)▸b
 | stack b=>exact b
 | thread b=>exact b
 | newGen b=>exact b
 | call a b=>exact⟨_,_,a,b⟩
 | callSusp a=>exact⟨_,_,a,rfl,rfl⟩
 | yield=>exact⟨rfl,rfl⟩
 | resumeFresh g a q b=>exact⟨_,_,dS g ⟨_,_,a,q,rfl,rfl⟩,b⟩
 | resumeSuspended g a q b=>exact⟨_,_,dS g ⟨_,_,a,q,rfl,rfl⟩,b⟩
 | resumeJustStarted g nv b=>exact⟨_,_,dS g ((ju nv).2 ⟨rfl,rfl⟩),b⟩
 | resumeThrowFresh g b=>exact⟨_,_,dS g ⟨rfl,rfl⟩,b⟩
 | resumeRunning g b=>exact⟨_,_,dS g ⟨rfl,rfl⟩,b⟩
 | resumeFinished g b=>exact⟨_,_,dS g ⟨rfl,rfl⟩,b⟩
 | segRet a b=>exact⟨_,_,a,b⟩
 | segGen a b=>exact⟨_,_,a,b⟩
 | segSuspOut n a=>exact⟨_,_,a,fun o h=>by rw[n]at h;subst h;exact⟨rfl,rfl⟩⟩
 | segSuspGen n a _ b=>exact⟨_,_,a,fun o h=>by rw[n]at h;subst h;exact b⟩
theorem jD {M:Model}{Γ:Ctx}{p:Pos}{t:Sem Fin}{fs:List Frame}{s:Shared}{e:End}{s':Shared} (h1:Runs M Γ p t fs s e s'):∀ {e2:End}{s2:Shared},Runs M Γ p t fs s e2 s2→e=e2∧s'=s2:=by
 induction h1 with
 | done=>exact fun h2=>⟨(ar h2).1.symm,(ar h2).2.symm⟩
 | raise=>exact fun h2=>⟨(ar h2).1.symm,(ar h2).2.symm⟩
 | again _ _ ih=>exact fun h2=>ih (ar h2)
 | rule _ ih=>exact fun h2=>ih (ar h2)
 | «at» _ ih=>exact fun h2=>ih (ar h2)
 | load g _ ih=>exact fun h2=>ih (ar h2 _ g)
 | update _ _ ih=>exact fun h2=>ih (ar h2)
 | loadIfAlive _ ih=>exact fun h2=>ih (ar h2)
 | point _ ih=>exact fun h2=>ih (ar h2)
 | alloc _ ih=>exact fun h2=>ih (ar h2)
 | fresh _ ih=>exact fun h2=>ih (ar h2)
 | ask _ ih=>exact fun h2=>ih (ar h2)
 | choose _ _ ih=>exact fun h2=>ih (ar h2)
 | os _ ih=>exact fun h2=>ih (ar h2)
 | handled _ ih=>exact fun h2=>ih (ar h2)
 | genState g _ ih=>exact fun h2=>ih (ar h2 _ g)
 | stack _ ih=>exact fun h2=>ih (ar h2)
 | thread _ ih=>exact fun h2=>ih (ar h2)
 | newGen _ ih=>exact fun h2=>ih (ar h2)
 | call _ _ ih1 ih2=>
  intro e2 s2 h2
  obtain⟨E,s1,a,b⟩:=ar h2
  obtain⟨rfl,rfl⟩:=ih1 a
  exact ih2 b
 | callSusp _ ih1=>
  intro e2 s2 h2
  obtain⟨E,s1,a,b⟩:=ar h2
  obtain⟨rfl,rfl⟩:=ih1 a
  exact⟨b.1.symm,b.2.symm⟩
 | yield=>exact fun h2=>⟨(ar h2).1.symm,(ar h2).2.symm⟩
 | resumeFresh g _ _ _ ih1 ih2=>
  intro e2 s2 h2
  obtain⟨res,s1,w,b⟩:=ar h2
  obtain⟨E,t1,a,_,rfl,rfl⟩:=dG g w
  obtain⟨rfl,rfl⟩:=ih1 a
  exact ih2 b
 | resumeSuspended g _ _ _ ih1 ih2=>
  intro e2 s2 h2
  obtain⟨res,s1,w,b⟩:=ar h2
  obtain⟨E,t1,a,_,rfl,rfl⟩:=dG g w
  obtain⟨rfl,rfl⟩:=ih1 a
  exact ih2 b
 | resumeJustStarted g nv _ ih=>
  intro e2 s2 h2
  obtain⟨res,s1,w,b⟩:=ar h2
  obtain⟨rfl,rfl⟩:=(ju nv).1 (dG g w)
  exact ih b
 | resumeThrowFresh g _ ih=>
  intro e2 s2 h2
  obtain⟨res,s1,w,b⟩:=ar h2
  obtain⟨rfl,rfl⟩:=dG g w
  exact ih b
 | resumeRunning g _ ih=>
  intro e2 s2 h2
  obtain⟨res,s1,w,b⟩:=ar h2
  obtain⟨rfl,rfl⟩:=dG g w
  exact ih b
 | resumeFinished g _ ih=>
  intro e2 s2 h2
  obtain⟨res,s1,w,b⟩:=ar h2
  obtain⟨rfl,rfl⟩:=dG g w
  exact ih b
 | segRet _ _ ih1 ih2=>
  intro e2 s2 h2
  obtain⟨E,s1,a,b⟩:=ar h2
  obtain⟨rfl,rfl⟩:=ih1 a
  exact ih2 b
 | segGen _ _ ih1 ih2=>
  intro e2 s2 h2
  obtain⟨E,s1,a,b⟩:=ar h2
  obtain⟨rfl,rfl⟩:=ih1 a
  exact ih2 b
 | segSuspOut n _ ih1=>
  intro e2 s2 h2
  obtain⟨E,s1,a,b⟩:=ar h2
  obtain⟨rfl,rfl⟩:=ih1 a
  exact⟨(b _ n).1.symm,(b _ n).2.symm⟩
 | segSuspGen n _ _ _ ih1 ih2=>
  intro e2 s2 h2
  obtain⟨E,s1,a,b⟩:=ar h2
  obtain⟨rfl,rfl⟩:=ih1 a
  exact ih2 (b _ n)
theorem rG {M:Model}{Γ:Ctx}{p:Pos}{g:Nat}{r:Resume}{s:Shared}{a b:GenResult}{s1 s2:Shared} (h1:Wakes M Γ p g r s a s1) (h2:Wakes M Γ p g r s b s2):a=b∧s1=s2:=by
 unfold Wakes at h1 h2
 split at h1
 ·exact h1.elim
 ·next c hc=>
  rw[hc]at h2
  cases r with
  | send v=>
   by_cases hv:v=.none
   ·subst hv
    obtain⟨e1,t1,r1,_,rfl,rfl⟩:=h1
    obtain⟨e2,t2,r2,_,rfl,rfl⟩:=h2
    obtain⟨x,y⟩:=jD r1 r2
    subst x y
    exact⟨rfl,rfl⟩
   ·cases v <;> first|exact absurd rfl hv|(obtain⟨rfl,rfl⟩:=h1;obtain⟨rfl,rfl⟩:=h2;exact⟨rfl,rfl⟩)
  | throw x=>
   obtain⟨rfl,rfl⟩:=h1
   obtain⟨rfl,rfl⟩:=h2
   exact⟨rfl,rfl⟩
 ·next k0 l0 c0 p0 fs cl hc=>
  rw[hc]at h2
  obtain⟨e1,t1,r1,_,rfl,rfl⟩:=h1
  obtain⟨e2,t2,r2,_,rfl,rfl⟩:=h2
  obtain⟨x,y⟩:=jD r1 r2
  subst x y
  exact⟨rfl,rfl⟩
 ·next hc=>
  rw[hc]at h2
  obtain⟨rfl,rfl⟩:=h1
  obtain⟨rfl,rfl⟩:=h2
  exact⟨rfl,rfl⟩
 ·next hc=>
  rw[hc]at h2
  obtain⟨rfl,rfl⟩:=h1
  obtain⟨rfl,rfl⟩:=h2
  exact⟨rfl,rfl⟩
theorem uA {α:Type}{M:Model}{Γ:Ctx}{Q Q':α→Pos→Shared→Prop}{E E':Value→Pos→Shared→Prop} (t:Sem α):∀ {p:Pos}{s:Shared},Sem.wp M Γ t Q E p s→Sem.wp M Γ t Q' E' p s→Sem.wp M Γ t (fun a p s=>Q a p s∧Q' a p s) (fun e p s=>E e p s∧E' e p s) p s:=by
 induction t with
 | pure a=>intro p s h1 h2;rw[Sem.wp]at *;exact⟨h1,h2⟩
 | raise e=>intro p s h1 h2;rw[Sem.wp]at *;exact⟨h1,h2⟩
 | load a part k ih=>
  intro p s h1 h2
  rw[Sem.wp]at *
  obtain⟨o,g,h1⟩:=h1
  obtain⟨o2,g2,h2⟩:=h2
  rw[g]at g2
  cases g2
  exact⟨o,g,ih o h1 h2⟩
 | update a part f k ih=>intro p s h1 h2;rw[Sem.wp]at *;exact⟨h1.1,ih () h1.2 h2.2⟩
 | choose src n k ih=>intro p s h1 h2;rw[Sem.wp]at *;exact⟨h1.1,ih _ h1.2 h2.2⟩
 | call c h g l k ih=>
  intro p s h1 h2
  rw[Sem.wp]at *
  obtain⟨r,s1,r1,h1⟩:=h1
  obtain⟨r',s1',r2,h2⟩:=h2
  obtain⟨x,y⟩:=jD r1 r2
  cases x
  cases y
  exact⟨r,s1,r1,ih r h1 h2⟩
 | genState g k ih=>
  intro p s h1 h2
  rw[Sem.wp]at *
  obtain⟨o,g,h1⟩:=h1
  obtain⟨o2,g2,h2⟩:=h2
  rw[g]at g2
  cases g2
  exact⟨o,g,ih _ h1 h2⟩
 | resume g r l k ih=>
  intro p s h1 h2
  rw[Sem.wp]at *
  obtain⟨r,s1,r1,h1⟩:=h1
  obtain⟨r',s1',r2,h2⟩:=h2
  obtain⟨x,y⟩:=rG r1 r2
  cases x
  cases y
  exact⟨r,s1,r1,ih r h1 h2⟩
 | _=>
  intro p s h1 h2
  rw[Sem.wp]at *
  first
   | exact h1.elim
   | (rename_i ih;exact ih _ h1 h2)
theorem dU {α:Type}{M:Model}{A:Around}{t:Sem α}{Q Q':α→Shared→Prop}{E E':Value→Shared→Prop}{s:Shared} (h1:wpAny M A t Q E s) (h2:wpAny M A t Q' E' s):wpAny M A t (fun a s=>Q a s∧Q' a s) (fun e s=>E e s∧E' e s) s:=
 fun Γ p hΓ=>uA t (h1 Γ p hΓ) (h2 Γ p hΓ)
theorem j0 (f:Array Value→Array Value)(o:Obj):(Obj.mapFields f o).dict=o.dict:=by
 unfold Obj.mapFields
 split <;> rfl
def dF (h:Heap)(e:Addr)(od:Option Addr):Prop:=∃ oe vs,h.get? e=some oe∧oe.data=.fields vs∧oe.dict=od∧vs[2]?=some .none
section
variable {M : Model}{A : Around}{E : Value → Shared → Prop}{s : Shared}{base : Heap}{env : Env}{outer : List Env}{L e : Addr}{oe : Obj}{vs : Array Value}
theorem iW {od:Option Addr}{T:Addr}{oT:Obj}{ts:Array Value} (he:s.heap.get? e=some oe) (hd:oe.data=.fields vs) (h1:vs[1]?=some (.ref T)) (ne:T≠e) (hT:s.heap.get? T=some oT) (hdT:oT.data=.fields ts) (h3:3<ts.size) (ho:oe.dict=od) (h2:vs[2]?=some .none):
  wpAny M A (setFlight (.ref e) none) (fun _ s'=>dF s'.heap e od) E s:=by
 unfold setFlight
 refine wpAny_bind (wpAny_field he hd h1 ?_)
 rw[if_pos (by simp)]
 refine wpAny_setField hT hdT h3 ⟨oe,vs,?_,hd,ho,h2⟩
 rw[Heap.get?_update_other _ _ ne]
 exact he
theorem kg {head:Value}{hadNext:Bool} (hfr:A.frames=some (env::outer)) (hl:s.heap.FunFrames base (env::outer)) (hf:env.frame=some L) (he:s.heap.get? e=some oe) (hd:oe.data=.fields vs) (hz:1<vs.size) (h2:vs[2]?=some .none):
  wpAny M A (do let a ← frameOf env;let pl ← entryPlaceOf L hadNext;let b ← EntryCells.newEntry head a .none (rawInt L) .none pl;setField (.ref e) 1 b) (fun _ s'=>wpAny M A (setFlight (.ref e) none) (fun _ s2=>dF s2.heap e oe.dict) E s') E s:=by
 have out:e∉(env::outer).filterMap (·.frame):=fun hm=>by
  obtain⟨_,o,ho,nf⟩:=hl.mem hm
  rw[he]at ho
  cases ho
  exact nf vs hd
 refine wpAny_bind (wpAny_frameOf_fun hfr hl hf fun h1 k1=>wpAny_bind (wpAny_entryPlaceOf fun pl hpl=>?_))
 have he1:h1.get? e=some oe:=(k1.2.1 e out).trans he
 unfold EntryCells.newEntry newFields
 refine wpAny_bind (wpAny_newObj_type ?_ (hpl.sizeOk5 _ _ _ _ _))
 have ne:h1.objs.size≠e:=Nat.ne_of_gt (Heap.lt_size he1)
 refine wpAny_setField (Heap.get?_push_of_some _ he1) hd hz ?_
 have hd2:=Obj.data_mapFields hd (·.setIfInBounds 1 (Value.ref h1.objs.size))
 refine iW (Heap.get?_update_self _ (Heap.get?_push_of_some _ he1) (Obj.isFreed_of_fields hd2)) hd2 (T:=h1.objs.size) (by simp[hz]) ne ((Heap.get?_update_other _ _ (Ne.symm ne)).trans (Heap.get?_push_size h1 rfl)) rfl ?_ (j0 _ _) (by simpa [Array.getElem?_setIfInBounds] using h2)
 simp only[List.size_toArray,List.length_append,List.length_cons,List.length_nil]
 omega
theorem ke (hfr:A.frames=some (env::outer))(hl:s.heap.FunFrames base (env::outer))(hf:env.frame=some L)(he:s.heap.get? e=some oe)(hd:oe.data=.fields vs)(h1:vs[1]?=some .none)(h2:vs[2]?=some .none):
  wpAny M A (leaving env (.ref e)) (fun _ s'=>dF s'.heap e oe.dict) E s:=by
 unfold leaving noteFrame
 simp only[hf]
 refine wpAny_bind (wpAny_bind (wpAny_field he hd h1 ?_))
 rw[if_neg (by decide)]
 exact kg hfr hl hf he hd (Array.getElem?_eq_some_iff.mp h1).1 h2
theorem sg {cls a0:Value}{od:Option Addr} (hfr:A.frames=some (env::outer)) (hl:s.heap.FunFrames base (env::outer)) (hf:env.frame=some L) (ht:s.heap.TracedW base e cls a0) (ho:dF s.heap e od) (hen:base.get? e=none):
  wpAny M A (leaving env (.ref e)) (fun _ s'=>dF s'.heap e od) E s:=by
 obtain⟨oe,vs,T,oT,ts,he,_,hd,h1,hnT,ne,hT,hdT,h3⟩:=ht
 obtain⟨oe2,vs2,he2,hd2',ho,h2⟩:=ho
 rw[he]at he2
 cases he2
 rw[hd]at hd2'
 cases hd2'
 unfold leaving noteFrame
 simp only[hf]
 refine wpAny_bind (wpAny_bind (wpAny_field he hd h1 ?_))
 rw[if_pos (by simp)]
 refine wpAny_bind (wpAny_field hT hdT h3 ?_)
 rw[if_neg (by simp[rawInt])]
 refine wpAny_bind (wpAny_setField hT hdT (Array.getElem?_eq_some_iff.mp h3).1 ?_)
 have oth:∀ b,b≠T→(s.heap.update T (Obj.mapFields (·.setIfInBounds 3 Value.none))).get? b=s.heap.get? b:=fun b hb=>Heap.get?_update_other _ _ (Ne.symm hb)
 have:=kg (M:=M) (A:=A) (E:=E) (s:={ s with heap:=s.heap.update T (Obj.mapFields (·.setIfInBounds 3 Value.none)) }) (base:=base) (head:=.ref T) (hadNext:=true) hfr (hl.of_keeps fun b o hb nf=>⟨o,(oth b (fun z=>by rw[z,hT]at hb;cases hb;exact nf ts hdT)).trans hb,rfl⟩) hf ((oth e (Ne.symm ne)).trans he) hd (Array.getElem?_eq_some_iff.mp h1).1 h2
 rw[ho]at this
 exact this
theorem sf {cls a0:Value}{od:Option Addr} (hfr:A.frames=some (env::outer)) (hl:s.heap.FunFrames base (env::outer)) (hf:env.frame=some L) (ht:s.heap.TracedW base e cls a0) (ho:dF s.heap e od):
  wpAny M A (noteFrame (.ref e) env) (fun _ s'=>dF s'.heap e od) E s:=by
 obtain⟨oe,vs,T,oT,ts,he,_,hd,h1,hnT,ne,hT,hdT,h3⟩:=ht
 obtain⟨oe2,vs2,he2,hd2',ho,h2⟩:=ho
 rw[he]at he2
 cases he2
 rw[hd]at hd2'
 cases hd2'
 unfold noteFrame
 simp only[hf]
 refine wpAny_bind (wpAny_field he hd h1 ?_)
 rw[if_pos (by simp)]
 refine wpAny_bind (wpAny_field hT hdT h3 ?_)
 rw[if_neg (by simp[rawInt])]
 refine wpAny_bind (wpAny_setField hT hdT (Array.getElem?_eq_some_iff.mp h3).1 ?_)
 have oth:∀ b,b≠T→(s.heap.update T (Obj.mapFields (·.setIfInBounds 3 Value.none))).get? b=s.heap.get? b:=fun b hb=>Heap.get?_update_other _ _ (Ne.symm hb)
 have hl2:=hl.of_keeps (h':=s.heap.update T (Obj.mapFields (·.setIfInBounds 3 Value.none))) fun b o hb nf=>⟨o,(oth b (fun z=>by rw[z,hT]at hb;cases hb;exact nf ts hdT)).trans hb,rfl⟩
 have he2:=(oth e (Ne.symm ne)).trans he
 have out:e∉(env::outer).filterMap (·.frame):=fun hm=>by
  obtain⟨_,o,ho,nf⟩:=hl2.mem hm
  rw[he2]at ho
  cases ho
  exact nf vs hd
 refine wpAny_bind (wpAny_frameOf_fun hfr hl2 hf fun h1' k1=>wpAny_bind (wpAny_entryPlaceOf fun pl hpl=>?_))
 have he1:h1'.get? e=some oe:=(k1.2.1 e out).trans he2
 unfold EntryCells.newEntry newFields
 refine wpAny_bind (wpAny_newObj_type ?_ (hpl.sizeOk5 _ _ _ _ _))
 refine wpAny_setField (Heap.get?_push_of_some _ he1) hd (Array.getElem?_eq_some_iff.mp h1).1 ?_
 have hd2:=Obj.data_mapFields hd (·.setIfInBounds 1 (Value.ref h1'.objs.size))
 exact⟨_,_,Heap.get?_update_self _ (Heap.get?_push_of_some _ he1) (Obj.isFreed_of_fields hd2),hd2,(j0 _ _).trans ho,by simpa [Array.getElem?_setIfInBounds] using h2⟩
theorem lu {cls a0 fl:Value}{od:Option Addr} (ht:s.heap.TracedAtW base e cls a0 fl) (ho:dF s.heap e od):wpAny M A (setFlight (.ref e) none) (fun _ s'=>dF s'.heap e od) E s:=by
 obtain⟨oe,vs,T,oT,ts,he,_,hd,h1,hnT,ne,hT,hdT,h3⟩:=ht
 obtain⟨oe2,vs2,he2,hd2',ho,h2⟩:=ho
 rw[he]at he2
 cases he2
 rw[hd]at hd2'
 cases hd2'
 exact iW he hd h1 ne hT hdT (Array.getElem?_eq_some_iff.mp h3).1 ho h2
end
end L2
namespace L2
open PySem PySem.Spec PyProof.Rows
def CXE (P:Program)(w:World):CXT:=fun outer H s E e s'=>∃ (ea:Addr)(cls a0:Value)(B:Heap)(H':Hp)(od:Option Addr),dF s'.heap ea od∧e=.ref ea∧s'.os=s.os∧AllBare s'.gens∧Un (frs outer) [] H H' s.heap s'.heap∧HOk P w H' s'.heap∧H' ea=none∧s.heap.get? ea=none∧
 Heap.FlyingW B outer ea cls a0 s'.heap∧(∀ b o,s'.heap.get? b=some o→b∉frs outer→B.get? b=none→s.heap.get? b=none∧H' b=none)∧E cls od H'
theorem cC {P:Program}{w:World}{H:Hp}{h:Heap}{a:Addr}{o:HO} (x:ObjOk P w H h a o):∃ ob,h.get? a=some ob:=by
 cases o with
 | lst xs=>obtain⟨_,_,_,_,e⟩:=x;exact⟨_,e⟩
 | tup xs=>obtain⟨_,_,_,ob,e,_⟩:=x;exact⟨_,e⟩
 | dK kvs=>obtain⟨_,_,_,_,o,_,_,e,_⟩:=x;exact⟨_,e⟩
 | dT kvs=>obtain⟨_,_,_,_,o,_,_,e,_⟩:=x;exact⟨_,e⟩
 | set S n=>obtain⟨o,_,_,_,e,_⟩:=x;exact⟨_,e⟩
 | ins C dx fs=>obtain⟨_,_,_,e,_⟩:=x;exact⟨_,e⟩
 | own y=>obtain⟨_,e⟩:=x;exact⟨_,e⟩
 | xd fs=>obtain⟨_,⟨_,_,_,e,_⟩,_⟩:=x;exact⟨_,e⟩
 | rng lo hi=>obtain⟨_,_,_,e⟩:=x;exact⟨_,e⟩
 | frz ob u=>obtain⟨e,_⟩:=x;exact⟨_,e⟩
 | tbl ps=>exact⟨_,(show h.get? a=some _ from x)⟩
 | met f y=>exact⟨_,(show h.get? a=some _ from x)⟩
 | ext φ=>obtain⟨_,⟨_,e⟩,_⟩:=x;exact⟨_,e⟩
theorem un_fly {P:Program}{w:World}{fs:List Addr}{H H':Hp}{h h1 h2 B:Heap} (u:Un fs [] H H' h h1) (hok:HOk P w H' h1) (hB1:B.StaysIn h1) (hB2:B.StaysIn h2) (up:h1.UpToSlots h2)
  (hfr:∀ b∈fs,∃ o,h1.get? b=some o∧∀ vs,o.data≠.fields vs) (frf:∀ b∈fs,H' b=none)
  (old:∀ b o,h1.get? b=some o→b∉fs→B.get? b=none→h.get? b=none∧H' b=none):
  Un fs [] H H' h h2∧HOk P w H' h2∧∀ b o,h2.get? b=some o→b∉fs→B.get? b=none→h.get? b=none∧H' b=none:=by
 have in1:∀ b o,h1.get? b=some o→b∉fs→(h.get? b≠none∨H' b≠none)→h2.get? b=some o:=fun b o e hb hn=>by
  cases q:B.get? b with
  | none=>
   have z:=old b o e hb q
   rcases hn with hn|hn
   ·exact absurd z.1 hn
   ·exact absurd z.2 hn
  | some o2=>
   have:=hB1 b o2 q
   rw[e]at this
   cases this
   exact hB2 b _ q
 have slots:∀ b o,h1.get? b=some o→b∈fs→∃ sl,h2.get? b=some { o with slots:=sl }:=fun b o e hb=>by
  obtain⟨o',e',hd⟩:=hfr b hb
  rw[e]at e'
  cases e'
  exact up b o e hd
 refine⟨⟨fun b o e n hb hx=>?_,fun b o e n hb hx=>?_,u.free,fun b o e hx=>?_,u.tups,u.frzs,u.tbls⟩,fun a v e=>?_,fun b o e hb hB=>⟨?_,?_⟩⟩
 ·exact in1 b o (u.keep b o e n hb hx) hb (.inl (by rw[e];exact fun z=>nomatch z))
 ·obtain⟨sl,e1⟩:=u.slot b o e n hb hx
  obtain⟨sl',e2⟩:=slots b _ e1 hb
  exact⟨sl',e2⟩
 ·obtain⟨o',e1⟩:=u.there b o e hx
  by_cases hb:b∈fs
  ·obtain⟨sl,e2⟩:=slots b o' e1 hb
   exact⟨_,e2⟩
  ·exact⟨o',in1 b o' e1 hb (.inl (by rw[e];exact fun z=>nomatch z))⟩
 ·refine (hok a v e).stay (fun c v' hc q=>in1 c v' q (fun z=>?_) (.inr ?_)) (fun _ q=>q) fun _ _ q=>q
  ·have:=frf c z
   rcases hc with rfl|hc
   ·rw[e]at this;cases this
   ·rw[hc]at this;cases this
  ·rcases hc with rfl|hc
   ·rw[e];exact fun z=>nomatch z
   ·rw[hc];exact fun z=>nomatch z
 ·cases q:h.get? b with
  | none=>rfl
  | some o'=>
   obtain⟨o2,e2⟩:=u.there b o' q (by simp)
   have:=(old b o2 e2 hb hB).1
   rw[q]at this;cases this
 ·cases q:H' b with
  | none=>rfl
  | some v=>
   obtain⟨o2,e2⟩:=cC (hok b v q)
   have:=(old b o2 e2 hb hB).2
   rw[q]at this;cases this
structure Own (X : Cx) : Prop where
  stk : X.stack = X.env :: X.outer
  frm : X.env.frame = some X.env.locals
  exs : X.ex = []
theorem Own.frs {X:Cx}(O:Own X):L2.frs X.stack=X.env.locals::X.fs:=by
 rw[O.stk]
 unfold L2.frs
 rw[List.filterMap_cons,O.frm]
 rfl
theorem jr {X:Cx}{pins:List (Addr×Obj)}{σ:St}{H:Hp}{s:Shared}{h2 B:Heap} (O:Own X) (I:Inv X pins σ H s) (hB1:B.StaysIn s.heap) (hB2:B.StaysIn h2) (up:s.heap.UpToSlots h2)
  (old:∀ b o,s.heap.get? b=some o→b∉frs X.stack→B.get? b=none→X.s₀.heap.get? b=none∧H b=none):
  Un X.fs [] X.H₀ H X.s₀.heap h2∧HOk X.prog X.w H h2∧∀ b o,h2.get? b=some o→b∉X.fs→B.get? b=none→X.s₀.heap.get? b=none∧H b=none:=by
 have neL:∀ b o,X.s₀.heap.get? b=some o→b≠X.env.locals:=fun b o e=>Nat.ne_of_lt (Nat.lt_of_lt_of_le (Heap.lt_size e) I.ok.above)
 have nofr:∀ b,b≠X.env.locals→b∉X.fs→b∉frs X.stack:=fun b h1 h2 z=>by
  rw[O.frs]at z
  rcases List.mem_cons.mp z with z|z
  ·exact h1 z
  ·exact h2 z
 have in1:∀ b o,s.heap.get? b=some o→b∉frs X.stack→(X.s₀.heap.get? b≠none∨H b≠none)→h2.get? b=some o:=fun b o e hb hn=>by
  cases q:B.get? b with
  | none=>
   have z:=old b o e hb q
   rcases hn with hn|hn
   ·exact absurd z.1 hn
   ·exact absurd z.2 hn
  | some o2=>
   have:=hB1 b o2 q
   rw[e]at this
   cases this
   exact hB2 b _ q
 have slots:∀ b o,s.heap.get? b=some o→b∈X.fs→∃ sl,h2.get? b=some { o with slots:=sl }:=fun b o e hb=>by
  obtain⟨_,o',e',hd⟩:=I.funs.mem hb
  rw[e]at e'
  cases e'
  exact up b o e hd
 have nx:∀ b,b∉X.ex:=fun b=>by rw[O.exs];simp
 refine⟨⟨fun b o e n hb hx=>?_,fun b o e n hb hx=>?_,fun b o e n hx=>I.base.free b o e n (nx b),fun b o e hx=>?_,I.base.tups,I.base.frzs,I.base.tbls⟩,fun a v e=>?_,fun b o e hb hB=>⟨?_,?_⟩⟩
 ·exact in1 b o (I.base.keep b o e n hb (nx b)) (nofr b (neL b o e) hb) (.inl (by rw[e];exact fun z=>nomatch z))
 ·obtain⟨sl,e1⟩:=I.base.slot b o e n hb (nx b)
  obtain⟨sl',e2⟩:=slots b _ e1 hb
  exact⟨sl',e2⟩
 ·obtain⟨o',e1⟩:=I.base.there b o e (nx b)
  by_cases hb:b∈X.fs
  ·obtain⟨sl,e2⟩:=slots b o' e1 hb
   exact⟨_,e2⟩
  ·exact⟨o',in1 b o' e1 (nofr b (neL b o e) hb) (.inl (by rw[e];exact fun z=>nomatch z))⟩
 ·refine (I.hok a v e).stay (fun c v' hc q=>in1 c v' q (fun z=>?_) (.inr ?_)) (fun _ q=>q) fun _ _ q=>q
  ·have:=I.stkFree c z
   rcases hc with rfl|hc
   ·rw[e]at this;cases this
   ·rw[hc]at this;cases this
  ·rcases hc with rfl|hc
   ·rw[e];exact fun z=>nomatch z
   ·rw[hc];exact fun z=>nomatch z
 ·cases q:X.s₀.heap.get? b with
  | none=>rfl
  | some o'=>
   obtain⟨o2,e2⟩:=I.base.there b o' q (nx b)
   have:=(old b o2 e2 (nofr b (neL b o' q) hb) hB).1
   rw[q]at this;cases this
 ·cases q:H b with
  | none=>rfl
  | some v=>
   obtain⟨o2,e2⟩:=cC (I.hok b v q)
   have nf:b∉frs X.stack:=fun z=>by rw[I.stkFree b z]at q;cases q
   have:=(old b o2 e2 nf hB).2
   rw[q]at this;cases this
section
variable {X : Cx}{pins : List (Addr×Obj)}{σ : St}{H : Hp}{s s' : Shared}{ea : Addr}{cls : Value}{h' : Heap}{E : XK}{E2 : Value → Shared → Prop}
theorem qd {vs:List Value}(O:Own X)(I:Inv X pins σ H s)(mk:Heap.MadeExcOf s.heap h' ea cls vs)(h:E cls none H):
  wpAny (model X.prog X.w) X.A (leaving X.env (.ref ea)) (fun _ s''=>CXE X.prog X.w X.outer X.H₀ X.s₀ E (.ref ea) s'') E2 { s with heap:=h' }:=by
 have hin:∀ env∈X.stack,∀ b,env.frame=some b→b∈frs X.stack:=fun env he b hb=>List.mem_filterMap.mpr ⟨env,he,hb⟩
 have hl:s.heap.FunFrames (PySem.W.hideAll s.heap (frs X.stack)) X.stack:=PySem.W.funFrames_hide I.stack hin
 rw[O.stk]at hl
 have hB1:(PySem.W.hideAll s.heap (frs X.stack)).StaysIn s.heap:=fun b o q=>PySem.W.of_hideAll _ q
 have hH:H ea=none:=by
  cases q:H ea with
  | none=>rfl
  | some v=>
   obtain⟨o,e⟩:=cC (I.hok ea v q)
   rw[mk.new]at e;cases e
 obtain⟨t,he,htn,ht⟩:=mk.there
 have hl':h'.FunFrames (PySem.W.hideAll s.heap (frs X.stack)) (X.env::X.outer):=by
  rw[O.stk]at *
  exact hl.of_keeps fun b o hb _=>⟨o,mk.keeps b o hb,rfl⟩
 refine wpAny_mono (dU (E':=E2) (wpAny_leaves_madeW (E:=E2) (Q:=fun _ s''=>∃ (a0:Value)(B:Heap)(H':Hp),H'=H∧s''.os=X.s₀.os∧AllBare s''.gens∧Un (frs X.outer) [] X.H₀ H' X.s₀.heap s''.heap∧HOk X.prog X.w H' s''.heap∧H' ea=none∧X.s₀.heap.get? ea=none∧
   Heap.FlyingW B X.outer ea cls a0 s''.heap∧(∀ b o,s''.heap.get? b=some o→b∉frs X.outer→B.get? b=none→X.s₀.heap.get? b=none∧H' b=none))
  (s:={ s with heap:=h' }) (base:=PySem.W.hideAll s.heap (frs X.stack)) (by rw[I.ok.frames,O.stk]) O.frm hB1 (by rw[O.stk]at *;exact hl) mk fun h'' t fl tu tn up=>?_)
  (ke (E:=E2) (s:={ s with heap:=h' }) (by rw[I.ok.frames,O.stk]) hl' O.frm he rfl rfl rfl)) (fun _ s'' z=>?_) (fun _ _ z=>z.1)
 ·have up2:s.heap.UpToSlots h'':=(Heap.UpToSlots.of_keeps mk.keeps).trans up
  obtain⟨u,hok,old⟩:=jr O I hB1 fl.1 up2 (fun b o e hb hB=>by
   rw[PySem.W.hideAll_get _ e hb]at hB;cases hB)
  have hs0:X.s₀.heap.get? ea=none:=by
   cases q:X.s₀.heap.get? ea with
   | none=>rfl
   | some o=>
    obtain⟨o',e⟩:=I.base.there ea o q (by rw[O.exs];simp)
    rw[mk.new]at e;cases e
  exact⟨_,_,H,rfl,I.os,I.bare,u,hok,hH,hs0,fl,old⟩
 ·obtain⟨⟨a0,B,H',rfl,z⟩,hd⟩:=z
  exact⟨ea,cls,a0,B,H',none,hd,rfl,z.1,z.2.1,z.2.2.1,z.2.2.2.1,z.2.2.2.2.1,z.2.2.2.2.2.1,z.2.2.2.2.2.2.1,z.2.2.2.2.2.2.2,h⟩
theorem qe {oe:Obj}{vs:Array Value}{a0:Value} (O:Own X) (I:Inv X pins σ H s) (he:s.heap.get? ea=some oe) (hd:oe.data=.fields vs) (h0:vs[0]?=some a0) (h1:vs[1]?=some .none) (h2:vs[2]?=some .none) (hH:H ea=none) (hs0:X.s₀.heap.get? ea=none) (h:E oe.cls oe.dict H):
  wpAny (model X.prog X.w) X.A (leaving X.env (.ref ea)) (fun _ s''=>CXE X.prog X.w X.outer X.H₀ X.s₀ E (.ref ea) s'') E2 s:=by
 have hin:∀ env∈X.stack,∀ b,env.frame=some b→b∈ea::frs X.stack:=fun env he b hb=>List.mem_cons_of_mem _ (List.mem_filterMap.mpr ⟨env,he,hb⟩)
 have hl:s.heap.FunFrames (PySem.W.hideAll s.heap (ea::frs X.stack)) X.stack:=PySem.W.funFrames_hide I.stack hin
 have hB1:(PySem.W.hideAll s.heap (ea::frs X.stack)).StaysIn s.heap:=fun b o q=>PySem.W.of_hideAll _ q
 have hB:(PySem.W.hideAll s.heap (ea::frs X.stack)).get? ea=none:=PySem.W.hideAll_none _ (List.mem_cons_self ..)
 have hfr:X.A.frames=some (X.env::X.outer):=by rw[I.ok.frames,O.stk]
 have hl2:s.heap.FunFrames (PySem.W.hideAll s.heap (ea::frs X.stack)) (X.env::X.outer):=by rw[O.stk]at hl ⊢;exact hl
 refine wpAny_mono (dU (E':=E2) (wpAny_leaving_firstW (E:=E2) (Q:=fun _ s''=>∃ (B:Heap),s''.os=X.s₀.os∧AllBare s''.gens∧Un (frs X.outer) [] X.H₀ H X.s₀.heap s''.heap∧HOk X.prog X.w H s''.heap∧
   Heap.FlyingW B X.outer ea oe.cls a0 s''.heap∧(∀ b o,s''.heap.get? b=some o→b∉frs X.outer→B.get? b=none→X.s₀.heap.get? b=none∧H b=none))
  hfr hl2 O.frm he hB1 hB hd h1 h0 fun h'' hL=>?_) (ke (E:=E2) hfr hl2 O.frm he hd h1 h2)) (fun _ s'' z=>?_) (fun _ _ z=>z.1)
 ·obtain⟨k1,⟨_,_,k2⟩,k3,k4⟩:=hL
  obtain⟨u,hok,old⟩:=jr O I hB1 k1 k4 (fun b o e hb hBb=>by
   by_cases hbe:b=ea
   ·rw[hbe];exact⟨hs0,hH⟩
   ·rw[PySem.W.hideAll_get _ e (fun z=>by rcases List.mem_cons.mp z with z|z;exact hbe z;exact hb z)]at hBb;cases hBb)
  exact⟨_,I.os,I.bare,u,hok,⟨k1,hB,k2,k3⟩,old⟩
 ·obtain⟨⟨B,z⟩,hdi⟩:=z
  exact⟨ea,oe.cls,a0,B,H,oe.dict,hdi,rfl,z.1,z.2.1,z.2.2.1,z.2.2.2.1,hH,hs0,z.2.2.2.2.1,z.2.2.2.2.2,h⟩
theorem tY {Hc:Hp}{e:Value} (O:Own X) (I:Inv X pins σ Hc s) (h:CXE X.prog X.w X.stack Hc s E e s'):
  wpAny (model X.prog X.w) X.A (leaving X.env e) (fun _ s''=>CXE X.prog X.w X.outer X.H₀ X.s₀ E e s'') E2 s':=by
 obtain⟨ea,cls,a0,B,H',od,di,rfl,os,bare,u,hok,hea,hsc,fl,old,hE⟩:=h
 have I1:Inv X pins σ H' s':=I.call' os u hok bare fun b z=>absurd z (by simp)
 have fl':=fl
 rw[O.stk]at fl'
 have hfr:X.A.frames=some (X.env::X.outer):=by rw[I.ok.frames,O.stk]
 refine wpAny_mono (dU (E':=E2) (wpAny_leaves_onW (E:=E2) (Q:=fun _ s''=>s''.os=X.s₀.os∧AllBare s''.gens∧Un (frs X.outer) [] X.H₀ H' X.s₀.heap s''.heap∧HOk X.prog X.w H' s''.heap∧
   Heap.FlyingW B X.outer ea cls a0 s''.heap∧(∀ b o,s''.heap.get? b=some o→b∉frs X.outer→B.get? b=none→X.s₀.heap.get? b=none∧H' b=none))
  hfr O.frm fl' fun h'' fl2 up=>?_) (sg (E:=E2) hfr fl'.2.2.1 O.frm fl'.2.2.2 di fl'.2.1)) (fun _ s'' z=>?_) (fun _ _ z=>z.1)
 ·obtain⟨u2,hok2,old2⟩:=jr O I1 fl.1 fl2.1 up (fun b o e hb hB=>by
   obtain⟨z1,z2⟩:=old b o e hb hB
   refine⟨?_,z2⟩
   cases q:X.s₀.heap.get? b with
   | none=>rfl
   | some o'=>
    obtain⟨o2,e2⟩:=I.base.there b o' q (by rw[O.exs];simp)
    rw[z1]at e2;cases e2)
  exact⟨I1.os,I1.bare,u2,hok2,fl2,old2⟩
 ·obtain⟨z,hdi⟩:=z
  have hs0:X.s₀.heap.get? ea=none:=by
   cases q:X.s₀.heap.get? ea with
   | none=>rfl
   | some o=>
    obtain⟨o',e⟩:=I.base.there ea o q (by rw[O.exs];simp)
    rw[hsc]at e;cases e
  exact⟨ea,cls,a0,B,H',od,hdi,rfl,z.1,z.2.1,z.2.2.1,z.2.2.2.1,hea,hs0,z.2.2.2.2.1,z.2.2.2.2.2,hE⟩
end
def fB (X:Cx)(W:St→XK):Prop:=∀ (pins:List (Addr×Obj))(σ:St)(H:Hp)(s:Shared)(e:Value)(s':Shared),Inv X pins σ H s→CXE X.prog X.w X.stack H s (W σ) e s'→X.xe e s'
def rC (X:Cx)(W:St→XK):Prop:=∀ (pins:List (Addr×Obj))(σ:St)(H:Hp)(s:Shared)(h':Heap)(ea:Addr)(cls:Value)(vs:List Value),Inv X pins σ H s→Heap.MadeExcOf s.heap h' ea cls vs→W σ cls none H→X.xe (.ref ea) { s with heap:=h' }
def rD (X:Cx)(W:St→XK):Prop:=∀ (pins:List (Addr×Obj))(σ:St)(H:Hp)(s:Shared)(ea:Addr)(oe:Obj)(vs:Array Value)(a0:Value),Inv X pins σ H s→s.heap.get? ea=some oe→oe.data=.fields vs→vs[0]?=some a0→vs[1]?=some .none→vs[2]?=some .none→H ea=none→X.s₀.heap.get? ea=none→W σ oe.cls oe.dict H→X.xe (.ref ea) s
section
variable {P : Program}{w : World}{K : PySem.W.Frag}{mg : Str → Option Value}{base : Heap}{N : List Str}{qual : Str}{scope : Scope}{f : Addr}{cd : Value}{A : Around}{outer : List Env}{s : Shared}{H : Hp}{E : XK}
theorem jh {CX:CXT}:Own (j9 CX P w K mg base N qual scope f cd A outer s H E):=⟨rfl,rfl,rfl⟩
theorem gF:fB (j9 (CXE P w) P w K mg base N qual scope f cd A outer s H E) (fun _=>E):=fun pins σ Hc sc e s' I h=>tY jh I h
theorem bO:rC (j9 (CXE P w) P w K mg base N qual scope f cd A outer s H E) (fun _=>E):=fun pins σ Hc sc h' ea cls vs I mk h=>qd jh I mk h
theorem uk:rD (j9 (CXE P w) P w K mg base N qual scope f cd A outer s H E) (fun _=>E):=fun pins σ Hc sc ea oe vs a0 I he hd h0 h1 h2 hH hs h=>qe jh I he hd h0 h1 h2 hH hs h
theorem Fun.okX {x:Str}{st:Stmt}{fd:FuncData}{ps:List Str}{k:Nat}{sp:Sp} (F:Fun K x qual st f fd) (S:am N ps (ah st)) (len:∀ vs H Q E,sp vs H Q E→vs.length=ps.length)
  (hbody:∀ (cdv:Value)(A:Around)(outer:List Env)(s:Shared)(H:Hp)(vs:List V)(Q:VK)(E:XK),Room k (A.deeper (envOfC qual (ah st) s.heap.objs.size f cdv))→sp vs H Q E→
   ∃ t,PSs (j9 (CXE P w) P w K mg base N qual (ah st) f cdv A outer s H E) (aJ st) t∧t { nx:=fun _ H'=>Q .non H',rt:=Q } (start N vs) H):FnOk P w K mg base (CXE P w) (k+1) f fd ps sp:=by
 obtain⟨oc,od,kV,doc,pm,an,cdv,ct,osl,rfl,lk,hcd⟩:=F.ex
 exact uc lk hcd S len fun A outer s H vs Q E hr hsp=>hbody cdv A outer s H vs Q E hr hsp
end
def DfX (P:Program)(w:World)(K:PySem.W.Frag)(mg:Str→Option Value)(base:Heap)(k:Nat)(x:Str)(ps:List Str)(sp:Sp):Prop:=
 ∃ f fd,mg x=some (.ref f)∧PySem.W.keepIn K (.ref f)=true∧Binds K fd ps []∧FnOk P w K mg base (CXE P w) k f fd ps sp
def DmX (P:Program)(w:World)(K:PySem.W.Frag)(mg:Str→Option Value)(base:Heap)(k:Nat)(C:Addr)(m:Str)(ps:List Str)(sp:Sp):Prop:=
 ∃ f fd,Cls K C∧pe K C m f∧Binds K fd ps []∧FnOk P w K mg base (CXE P w) k f fd ps sp
def DkX (P:Program)(w:World)(K:PySem.W.Frag)(mg:Str→Option Value)(base:Heap)(k:Nat)(x:Str)(C:Addr)(ps:List Str)(sp:Sp):Prop:=
 ∃ f fd,mg x=some (.ref C)∧Mk K C f∧Binds K fd ps []∧FnOk P w K mg base (CXE P w) k f fd ps sp
section
variable {X : Cx}{k : Nat}{C : Addr}{ps : List Str}{sp : Sp}{x m : Str}{p pos apos : Pos}{e o : Expr}{es : List Expr}{ta : TE}{t : TA}{W : St → XK}{f : Addr}{fd : FuncData}
def tCallX (sp:Sp)(W:St→XK)(t:TA):TE:=fun σ H Q=>t σ H fun vs H1=>sp vs H1 Q (W σ)
def tMethX (C:Addr)(m:Str)(sp:Sp)(W:St→XK)(ta:TE)(t:TA):TE:=fun σ H Q=>ta σ H fun x H1=>∃ a dx fs,x=.ref a∧H1 a=some (.ins C dx fs)∧fs.lookup m=none∧t σ H1 fun vs H2=>sp (x::vs) H2 Q (W σ)
def tMakeX (C:Addr)(sp:Sp)(W:St→XK)(t:TA):TE:=fun σ H Q=>t σ H fun vs H1=>∀ x dx,H1 x=none→H1 dx=none→dx≠x→
 sp (.ref x::vs) (upd (upd H1 dx (.own x)) x (.ins C dx [])) (fun v H2=>v=.non∧Q (.ref x) H2) (W σ)
theorem qH {pins:List (Addr×Obj)}{σ:St}{H:Hp}{s:Shared}{Q:VK}{us:List Value}{vs:List V} (F:FnOk X.prog X.w X.K X.mg X.base (CXE X.prog X.w) k f fd ps sp) (hr:Room k X.A) (hb:Binds X.K fd ps []) (hx:fB X W)
  (I:Inv X pins σ H s) (r:Vals vs us) (h:sp vs H Q (W σ)):wpAny (model X.prog X.w) X.A (call (.ref f) us) (EP X pins σ Q) X.xe s:=by
 have hl:(us++[]).length=ps.length:=by rw[List.append_nil,← r.length];exact F.len _ _ _ _ h
 have hb':=hb s us I.kIn hl
 rw[List.append_nil]at hb'
 refine wpAny_call (codeAny_mono (F.run X.A X.stack s H ⟨us,[]⟩ us vs Q (W σ) hr I.env0 hb' r h) fun r s' hq=>?_)
 cases r with
 | error e=>exact hx pins σ H s e s' I hq
 | ok fl=>
  cases fl with
  | ret u=>exact I.after hq
  | next=>exact False.elim hq
  | brk=>exact False.elim hq
  | cont=>exact False.elim hq
theorem gY (hx:fB X W)(D:DfX X.prog X.w X.K X.mg X.base k x ps sp)(hr:Room k X.A)(hg:Gl X x)
  (ha:PA X (e::es) t) (hdb:(x==("__debug__":Str))=false:=by decide) (he:starEach (e::es) X.env=(false,eval e X.env)::starEach es X.env:=by rfl) (hpl:(backTo pos (starEach es X.env)).any (·.1)=false:=by rfl):
  PE X (.Call (.Name x p) (e::es) [] pos) (tCallX sp W t):=by
 obtain⟨f,fd,hm,hk,hb,F⟩:=D
 intro pins s σ H Q I h
 refine wpAny_Call_Name_kw (cx I hg hm ?_ hdb)
 refine PySem.W.callWith_K (h₀:=X.base) I.ok.mod.kin hk (thn (ha pos pins s σ H _ I h) fun us s1 ⟨vs,H1,I1,r,q⟩=>⟨I1.kIn,?_⟩) he hpl
 exact qH F hr hb hx I1 r q
theorem bd {pl:Sem Bool}(hx:fB X W)(he:PE X o ta)(D:DmX X.prog X.w X.K X.mg X.base k C m ps sp)(hr:Room k X.A)(ha:PA X (e::es) t)
  (hst:starEach (e::es) X.env=(false,eval e X.env)::starEach es X.env:=by rfl) (hpl:(backTo pos (starEach es X.env)).any (·.1)=false:=by rfl)
  (ht:eval (.Call (.Attribute o m apos) (e::es) [] pos) X.env=(do
   let ov ← eval o X.env
   standAt apos.atName
   let (f,first) ← holding [ov] (getMethod ov m pl)
   callWith pos f first (backTo pos (starEach (e::es) X.env)) (backToKw pos (keywordEach [] X.env))):=by rfl):
  PE X (.Call (.Attribute o m apos) (e::es) [] pos) (tMethX C m sp W ta t):=by
 obtain⟨f,fd,cl,hm,hb,F⟩:=D
 intro pins s σ H Q I h
 refine PySem.W.methodCall_KW (pl:=pl) (thn (he pins s σ H _ I h) fun u s1 ⟨x,H1,I1,rx,a,dx,fs,ex,ea,l,q⟩=>?_) ht
 subst ex
 obtain rfl:u=Value.ref a:=rx
 refine dc I1 ea cl hm l ?_
 refine PySem.W.callWith_K (first:=[.ref a]) (h₀:=X.base) I.ok.mod.kin hm.kp (thn (ha pos pins s1 σ H1 _ I1 q) fun us s2 ⟨vs,H2,I2,r,q2⟩=>⟨I2.kIn,?_⟩) hst hpl
 exact qH (us:=.ref a::us) (vs:=.ref a::vs) F hr hb hx I2 (.cons rfl r) q2
theorem rQ {pins:List (Addr×Obj)}{σ:St}{H:Hp}{s:Shared}{Q:VK}{us:List Value}{vs:List V} (M:Mk X.K C f) (F:FnOk X.prog X.w X.K X.mg X.base (CXE X.prog X.w) k f fd ps sp) (hr:Room (k+1) X.A) (hb:Binds X.K fd ps [])
  (hx:fB X W) (I:Inv X pins σ H s) (r:Vals vs us)
  (h:∀ x dx,H x=none→H dx=none→dx≠x→sp (.ref x::vs) (upd (upd H dx (.own x)) x (.ins C dx [])) (fun v H2=>v=.non∧Q (.ref x) H2) (W σ)):
  wpAny (model X.prog X.w) X.A (call (.ref C) us) (EP X pins σ Q) X.xe s:=by
 have hq:=h (s.heap.objs.size+1) s.heap.objs.size (I.hok.fresh (Nat.le_succ _)) (I.hok.fresh (Nat.le_refl _)) (Nat.ne_of_lt (Nat.lt_succ_self _))
 have I2:=Inv.made (C:=C) I
 have r2:Vals (V.ref (s.heap.objs.size+1)::vs) (Value.ref (s.heap.objs.size+1)::us):=.cons rfl r
 have hl:((Value.ref (s.heap.objs.size+1)::us)++[]).length=ps.length:=by
  rw[List.append_nil]
  have e:=r2.length
  rw[F.len _ _ _ _ hq]at e
  exact e.symm
 have hb':=hb _ (Value.ref (s.heap.objs.size+1)::us) I2.kIn hl
 rw[List.append_nil]at hb'
 refine wpAny_call (oh (f:=f) I.kIn M.makes M.init (beq_iff_eq.mp M.fn) (codeAny_mono (F.run _ X.stack _ _ ⟨Value.ref (s.heap.objs.size+1)::us,[]⟩ (Value.ref (s.heap.objs.size+1)::us) _ _ (W σ) (hr.make C us [])
  (I2.env0.make C us []) hb' r2 hq) fun r s' hq'=>?_))
 cases r with
 | error e=>exact hx pins σ _ _ e s' I2 hq'
 | ok fl=>
  cases fl with
  | ret u=>
   obtain⟨v,H',I3,rv,ev,q3⟩:=I2.after hq'
   subst ev
   exact⟨rv,⟨V.ref (s.heap.objs.size+1),H',I3,rfl,q3⟩⟩
  | next=>exact False.elim hq'
  | brk=>exact False.elim hq'
  | cont=>exact False.elim hq'
theorem nC (hx:fB X W)(D:DkX X.prog X.w X.K X.mg X.base k x C ps sp)(hr:Room (k+1) X.A)(hg:Gl X x)
  (ha:PA X (e::es) t) (hdb:(x==("__debug__":Str))=false:=by decide) (he:starEach (e::es) X.env=(false,eval e X.env)::starEach es X.env:=by rfl) (hpl:(backTo pos (starEach es X.env)).any (·.1)=false:=by rfl):
  PE X (.Call (.Name x p) (e::es) [] pos) (tMakeX C sp W t):=by
 obtain⟨f,fd,hm,M,hb,F⟩:=D
 intro pins s σ H Q I h
 refine wpAny_Call_Name_kw (cx I hg hm ?_ hdb)
 refine PySem.W.callWith_K (h₀:=X.base) I.ok.mod.kin M.kp (thn (ha pos pins s σ H _ I h) fun us s1 ⟨vs,H1,I1,r,q⟩=>⟨I1.kIn,?_⟩) he hpl
 exact rQ M F hr hb hx I1 r q
end
abbrev bC:List Value:=[.type "ValueError",.type "Exception",.type "BaseException",.type "object"]
theorem vv {K:PySem.W.Frag}{h:Heap}{C:Addr}{bmB:List Value}{newId:String} (X:K.In h) (q:PySem.W.excIn K C bmB newId=true):
  ∃ bm N nm q bs hdct sn sub ab col dd k0 k1 k2 k3 k5 mN,h.get? C=some (excClassObj nm q C N bs bm hdct sn sub ab col dd k0 k1 k2 k3 k5 newId)∧h.Ns N mN∧mN "__init__"=none∧OwnTail h bmB bm:=by
 unfold PySem.W.excIn at q
 split at q
 ·rename_i dd cd sl ho
  split at q
  ·rename_i C' bm k0 k1 k2 k3 n k5 hm hs
   simp only[Bool.and_eq_true,beq_iff_eq,Bool.not_eq_true']at q
   obtain⟨⟨⟨⟨⟨rfl,rfl⟩,hdel⟩,ht⟩,hok⟩,hni⟩:=q
   obtain⟨nm,bs,mro,ns,qn,hd,sn,sub,ab,col,del⟩:=cd
   dsimp only at hm hdel hok hni
   subst hm hdel
   have hsl:sl=#[k0,k1,k2,k3,some (.builtin n),k5]:=by
    obtain⟨l⟩:=sl
    simp only at hs
    rw[hs]
   subst hsl
   exact⟨bm,ns,nm,qn,bs,hd,sn,sub,ab,col,dd,k0,k1,k2,k3,k5,_,X _ _ ho,.of_isNs (PySem.W.isNs_of_in X hok),PySem.W.nsMap_none_of_in X hok hni,PySem.W.tail_of_in X ht⟩
  ·cases q
 ·cases q
def tRaise (W:St→XK)(C:Addr):TS:=fun _ σ H=>W σ (.ref C) none H
theorem bq {X:Cx}{W:St→XK}{x:Str}{C:Addr}{np cpos pos:Pos} (hc:X.calm=true) (hw:rC X W) (hg:Gl X x) (hm:X.mg x=some (.ref C)) (q:PySem.W.excIn X.K C bC "ValueError.__new__"=true)
  (hdb:(x==("__debug__":Str))=false:=by decide):PS X (.Raise (some (.Call (.Name x np) [] [] cpos)) none pos) (tRaise W C):=by
 intro pins s σ H D I h
 obtain⟨tl,N,nm,qn,bs,hdct,sn,sub,ab,col,dd,k0,k1,k2,k3,k5,mN,hC,hN,hni,T⟩:=vv I.kIn q
 refine wpAny_Raise_call_subT (C:=C) (nm:=nm) (q:=qn) (N:=N) (bs:=bs) (bm:=tl) (hdct:=hdct) (sn:=sn) (sub:=sub) (ab:=ab) (col:=col) (dd:=dd) (k0:=k0) (k1:=k1) (k2:=k2) (k3:=k3) (k5:=k5)
  PySem.F.excBase_ValueError (mN:=mN) (T.hasType PySem.F.excBase_ValueError.hasBase) (I.ok.hd hc) rfl hni (cx I hg hm ⟨rfl,?_⟩ hdb)
 exact evalArgs_empty ⟨rfl,Nat.zero_le _,hC,hN,T,fun h' e mk=>hw pins σ H s h' e _ _ I mk h⟩
end L2
namespace L2
open PySem PyProof.Rows
def tupO (us:List Value):Obj:={ cls:=.type "tuple",data:=.seq us.toArray }
def vA (C t:Addr):Obj:={ cls:=.ref C,data:=.fields #[.ref t,.none,.none,.none,.bool false,.none] }
def lx (h:Heap)(C:Addr)(us:List Value):Heap:=(h.push (tupO us)).push (vA C h.objs.size)
theorem dP {h:Heap}{C:Addr}{us:List Value}:∀ b o,h.get? b=some o→(lx h C us).get? b=some o:=fun _ _ e=>Heap.get?_push_of_some _ (Heap.get?_push_of_some _ e)
theorem lv {h:Heap}{C:Addr}{us:List Value}:(lx h C us).get? (h.objs.size+1)=some (vA C h.objs.size):=by
 unfold lx vA tupO
 heap_get
theorem qf {h:Heap}{C:Addr}{us:List Value}:Heap.MadeExcOf h (lx h C us) (h.objs.size+1) (.ref C) us:=
 ⟨dP,Heap.get?_none_of_le (Nat.le_succ _),h.objs.size,lv,Heap.get?_none_of_le (Nat.le_refl _),Heap.get?_push_of_some _ (Heap.get?_push_at rfl rfl)⟩
section
variable {P : Program}{w : World}{A : Around}{E : Value → Shared → Prop}{s : Shared}
variable {nm q : Str}{C N fI : Addr}{bs bm tl : List Value}{hd ab : Bool}{sn : List Str}{sub us : List Value}{col : Option Bool}{dd : Option Addr}{k0 k1 k2 k3 k5 : Option Value}{B newId initId : String}{mN : Str → Option Value}{oI : Obj}
theorem ku {Q:Fin→Shared→Prop}(F:ExcBaseFacts B newId initId bm)(T:OwnTail s.heap bm tl)(hC:s.heap.get? C=some (excClassObj nm q C N bs tl hd sn sub ab col dd k0 k1 k2 k3 k5 newId))(hN:s.heap.Ns N mN)(hI:mN "__init__"=some (.ref fI))(hf:s.heap.get? fI=some oI)(hfc:oI.cls=.type "function")(hz:us.length≤sizeLine)
  (k:∀ h' e,Heap.MadeExcOf s.heap h' e (.ref C) us→wpAny (model P w) A (call (.ref fI) (.ref e::us)) (fun r s'=>r=.none∧Q (.done (.ret (.ref e))) s') E { s with heap:=h' }):
  wpAny (model P w) A (Builtin.«type.__call__» ⟨.ref C::us,[]⟩) Q E s:=by
 obtain⟨h,g,d,t,os⟩:=s
 repeat (first|with_reducible refine wpAny_madeBy_exc hC ?_|with_reducible refine wpAny_loadPart_at hC ?_|wp_step)
 refine codeAny_call_builtin_code (Code.quiet_builtin _ F.quiet) (wpAny_check_new_subT F T hC (codeAny_exc_new_subT F T hC ?_ hz))
 show wpAny _ _ _ _ _ ⟨lx h C us,g,d,t,os⟩
 have hC':=dP (C:=C) (us:=us) C _ hC
 have hme:(Value.ref C::tl).contains (.ref C)=true:=by simp
 have hN':(lx h C us).Ns N mN:=by
  obtain⟨o,es,ep,e,r⟩:=hN
  exact⟨o,es,ep,dP _ _ e,r⟩
 have hx:=lv (h:=h) (C:=C) (us:=us)
 unfold vA at hx
 unfold isInstance
 repeat (first|(with_reducible refine wpAny_isSubtype_exc hC' ?_;rw[hme])|with_reducible refine wpAny_loadPart_at hx ?_|wp_step)
 show wpAny _ _ (typeLookup (.ref C) _) _ _ _
 refine wpAny_typeLookup_tail hC' hN' (T.keeps dP) F.mroIs F.init.lookup ?_
 rw[hI]
 refine wpAny_holding (wpAny_bind ?_)
 unfold bindSpecial
 refine wpAny_bind (wpAny_typeOf (T:="function") ⟨_,dP _ _ hf,hfc⟩ ?_)
 rw[if_pos (by decide)]
 refine wpAny_pure (wpAny_bind (wpAny_mono (k _ _ qf) (fun r s' hr=>?_) fun _ _ x=>x))
 obtain⟨rfl,hQ⟩:=hr
 wp_walk
 exact hQ
theorem uq {Q:Value→Shared→Prop}(F:ExcBaseFacts B newId initId bm)(T:OwnTail s.heap bm tl)(hC:s.heap.get? C=some (excClassObj nm q C N bs tl hd sn sub ab col dd k0 k1 k2 k3 k5 newId))(hN:s.heap.Ns N mN)(hI:mN "__init__"=some (.ref fI))(hf:s.heap.get? fI=some oI)(hfc:oI.cls=.type "function")(hz:us.length≤sizeLine)
  (k:∀ h' e,Heap.MadeExcOf s.heap h' e (.ref C) us→wpAny (model P w) (A.under (.builtin "type.__call__" ⟨.ref C::us,[]⟩)) (call (.ref fI) (.ref e::us)) (fun r s'=>r=.none∧Q (.ref e) s') E { s with heap:=h' }):
  wpAny (model P w) A (call (.ref C) us) Q E s:=by
 have f1:=tc_lookup
 have f2:=tc_bind (.ref C)
 have hT:s.TypeIs (.ref C) "type":=⟨_,hC,rfl⟩
 obtain⟨h,g,d,t,os⟩:=s
 refine wpAny_call (codeAny_of_tree ?_)
 show wpAny _ _ (callAny (.ref C) _) _ _ _
 repeat (any_goals (first|with_reducible refine wpAny_loadPart_at hC ?_|assumption|wp_step))
 exact⟨rfl,codeAny_call_builtin_at (Code.quiet_builtin _ (by decide +kernel)) entry_typeCall (wpAny_check_type_call_sub hC (ku F T hC hN hI hf hfc hz fun h' e mk=>k h' e mk))⟩
end
end L2
namespace L2
open PySem PySem.Spec PySem.Calls PySem.W PyProof.Rows
open PySem.Builtin PySem.Builtin.ObjectAttr
def mz:List Value→Bool
 | []=>false
 | .ref _::r=>mz r
 | v::r=>(v::r)==bC
theorem sO {l:List Value}(h:(l==bC)=true):l=bC:=beq_iff_eq.mp h
theorem kW (self:Value):∀ (l:List Value),mz l=true→refuseLoop self "__setattr__" l=pure ()
 | [],e=>by cases e
 | v::r,e=>by
  cases v
  case ref c=>rw[refuseLoop_ref];exact kW self r e
  all_goals
   have e':=sO e
   rw[e']
   exact F.store_ValueError.passes self
theorem sP:∀ (l:List Value),mz l=true→l.contains (.type "object")=true
 | [],e=>by cases e
 | v::r,e=>by
  cases v
  case ref c=>rw[List.contains_cons,sP r e,Bool.or_true]
  all_goals
   have e':=sO e
   rw[e']
   decide
def mK (K:Frag)(C:Addr):Bool:=(clsIn K C).any fun cd=>mz cd.mro
section
variable {prog : Program}{w : World}{A : Around}{s : Shared}{K : Frag}{x C : Addr}{R : Result → Shared → Prop}
theorem v6 {ox:Obj}{vs:Array Value}{name:Str}{tk:Tok}{v:Value} (X:K.In s.heap) (hx:s.heap.get? x=some ox) (hcl:ox.cls=.ref C) (hdat:ox.data=.fields vs) (hdn:ox.dict=none)
  (hp:mK K C=true) (ht:takerIn K C name=some none) (hh:hasDictIn K C=true)
  (h:∀ h' tk',h'.get? x=some { ox with dict:=some s.heap.objs.size }→h'.Ns1 s.heap.objs.size (fun y=>if y=name then some v else none)→(∀ b o,b≠x→s.heap.get? b=some o→h'.get? b=some o)→R (.ok (.ret .none)) { s with heap:=h',toks:=tk' }):
  codeAny (model prog w) A (.call (.builtin "object.__setattr__") ⟨[.ref x,.str name tk,v],[]⟩) R s:=by
 have SF:=PySem.F.store_object
 have I:InstAt s.heap x ox C none:=⟨hx,hcl,by unfold notCls;rw[hdat],by rw[hdn];trivial⟩
 obtain⟨cd,hc,ho⟩:=any_some hp
 have ne:cd.mro.isEmpty=false:=by cases q:cd.mro with|nil=>rw[q]at ho;cases ho|cons _ _=>rfl
 have sub:Looks (model prog w) s.heap (isInstance (.ref x) (.type "object")) true:=I.type.andThen (looks_mroIn X (by unfold mroIn;rw[hc,Option.bind_some,if_neg (by rw[ne];decide),sP _ ho]))
 refine codeAny_call_builtin SF.slot.plain SF.entry (@check_slot (model prog w) _ _ s "object.__setattr__" "object" "__setattr__" (.ref x) [.str name tk,v] [] _ SF.kind SF.split sub (SF.args (.ref x) (.str name tk) v) ?_)
 obtain⟨attr,ha,hr⟩:=Option.bind_eq_some_iff.mp ht
 have hm:Looks (model prog w) s.heap (mroOf (.ref C)) cd.mro:=(looks_clsIn X hc).andThen .now
 have L3:Looks (model prog w) s.heap (storeTaker? attr) none:=by
  cases attr with
  | none=>exact .now
  | some a=>
   obtain⟨b,hb,e⟩:=Option.map_eq_some_iff.mp hr
   refine (looks_takesIn X hb).andThen ?_
   cases b with
   | true=>cases e
   | false=>exact .now
 rw[osa_eq,refuse_eq]
 refine wpAny_bind (wpAny_bind (I.type.here (wpAny_bind (hm.here ?_))))
 rw[kW _ _ ho]
 refine wpAny_pure (wpAny_bind (I.type.here (wpAny_bind ((looks_findIn X ha).here (wpAny_bind (L3.here ?_))))))
 obtain⟨cd2,hc2,hd'⟩:=any_some hh
 obtain⟨hp0,g,d,t,os⟩:=s
 obtain⟨oc,odi,oda,osl⟩:=ox
 dsimp only at hcl hdat hdn
 subst hcl hdat hdn
 refine wpAny_bind (wpAny_pure (wpAny_bind (wpAny_bind (wpAny_loadPart hx (wpAny_bind ((looks_clsIn X hc2).here ?_))))))
 rw[hd']
 have hx₁:(hp0.push { cls:=.type "dict",data:=.dict #[] }).get? x=some { cls:=.ref C,data:=.fields vs,slots:=osl }:=Heap.get?_push_of_some _ hx
 have hxs:x≠hp0.objs.size:=Nat.ne_of_lt (Heap.lt_size hx)
 refine wpAny_bind (wpAny_alloc' ?_)
 refine wpAny_bind (wpAny_update' hx₁ ?_)
 refine wpAny_pure ?_
 have hgd:((hp0.push { cls:=.type "dict",data:=.dict #[] }).update x fun o=>{ cls:=o.cls,dict:=some hp0.objs.size,data:=o.data,slots:=o.slots }).get? hp0.objs.size
   = some { cls:=.type "dict",data:=.dict #[] }:=
  (Heap.get?_update_ne _ _ _ _ hxs.symm).trans (Heap.get?_push_at rfl rfl)
 have hnd:((hp0.push { cls:=.type "dict",data:=.dict #[] }).update x fun o=>{ cls:=o.cls,dict:=some hp0.objs.size,data:=o.data,slots:=o.slots }).Ns hp0.objs.size (fun _=>none):=
  ⟨_,#[],_,hgd,rfl,fun e he=>absurd he (by simp),fun _=>rfl⟩
 show wpAny _ _ (storeInDict hp0.objs.size (.str name tk) name v) _ _ _
 unfold storeInDict newKeyGuard
 refine wpAny_bind (wpAny_pure (wpAny_bind (wpAny_nsSet1 (Heap.Ns1.of_empty hnd) fun h' hn' hs=>?_)))
 obtain⟨oD,esD,epD,hoD,hdD,hcD⟩:=hn'.count (Within.cons name v Within.nil)
 refine wpAny_bind (wpAny_lookBehind hoD (by rw[hdD];exact pastItsLine_dict (Nat.le_trans hcD (by rw[List.length_cons,List.length_nil,sizeLine_eq];omega))) ?_)
 refine wpAny_pure (h h' _ ?_ hn' fun b ob hbx hb=>?_)
 ·exact (hs.2 x hxs).trans (Heap.get?_update_self _ hx₁ rfl)
 ·exact (hs.2 b (Nat.ne_of_lt (Heap.lt_size hb))).trans ((Heap.get?_update_ne _ _ _ _ hbx).trans (Heap.get?_push_of_some _ hb))
end
end L2
namespace L2
open PySem PySem.Spec PySem.Calls PySem.W PyProof.Rows
def lH (ea C:Addr)(od:Option Addr)(h:Heap):Prop:=∃ o vs a0,h.get? ea=some o∧o.cls=.ref C∧o.data=.fields vs∧vs[0]?=some a0∧vs[1]?=some .none∧o.dict=od∧vs[2]?=some .none∧4<vs.size
def sE (ea C:Addr):HO:=.ext (lH ea C none)
def uf (ea C dx:Addr):HO:=.ext (lH ea C (some dx))
theorem ue {P:Program}{w:World}{H:Hp}{h:Heap}{ea C:Addr}{od:Option Addr} (x:lH ea C od h):ObjOk P w H h ea (.ext (lH ea C od)):=by
 obtain⟨o,vs,a0,ho,r⟩:=id x
 exact⟨x,⟨o,ho⟩,fun h1 h2 ⟨o1,vs1,a1,q1,q2⟩ k=>⟨o1,vs1,a1,k o1 q1,q2⟩⟩
theorem fS {l:Addr}{H:Hp}:hide l H l=none:=if_pos rfl
structure vH (K : Frag) (C : Addr) (f : Str) : Prop where
  sa : findIn K (.ref C) "__setattr__" = some (some (.builtin "object.__setattr__"))
  ov : mK K C = true
  tk : takerIn K C f = some none
  hd : hasDictIn K C = true
section
variable {X : Cx}{pins : List (Addr×Obj)}{σ : St}{H : Hp}{s : Shared}
theorem uO {A:Around}{E:Value→Shared→Prop}{ea C:Addr}{f:Str}{y:V}{u:Value}{Q:Unit→Shared→Prop} (I:Inv X pins σ H s) (e:H ea=some (sE ea C)) (T:vH X.K C f) (ry:RelV y u)
  (h:∀ dx s',H dx=none→dx≠ea→Inv X pins σ (upd (upd H dx (.xd [(f,y)])) ea (uf ea C dx)) s'→Q () s'):wpAny (model X.prog X.w) A (setAttr (.ref ea) f u) Q E s:=by
 obtain⟨ox,vs,a0,hx,hc,hd,h0,h1,hdn,h22,h5z⟩:=id (show lH ea C none s.heap from (I.hok ea _ e).1)
 have IA:InstAt s.heap ea ox C none:=⟨hx,hc,by unfold notCls;rw[hd],by rw[hdn];trivial⟩
 refine set_plain I.kIn IA T.sa (v6 (s:={ s with toks:=s.toks+1 }) I.kIn hx hc hd hdn T.ov T.tk T.hd fun h' tk' hx' hn' hk=>?_)
 have dn:H s.heap.objs.size=none:=I.hok.fresh (Nat.le_refl _)
 have ne:s.heap.objs.size≠ea:=Nat.ne_of_gt (Heap.lt_size hx)
 refine h s.heap.objs.size _ dn ne (I.call' (ch:=[]) rfl ?_ ?_ I.bare fun b z=>absurd z (by simp))
 ·have old:∀ b,H b≠none→b≠ea→upd (upd H s.heap.objs.size (.xd [(f,y)])) ea (uf ea C s.heap.objs.size) b=H b:=fun b hb hbe=>by
   rw[aa hbe,aa (fun z=>hb (by rw[z];exact dn))]
  refine⟨fun b o q n hb hx=>?_,fun b o q n hb hx=>?_,fun b o q n hx=>?_,fun b o q hx=>?_,fun b xs q=>?_,fun b o u q=>?_,fun b ps q=>?_⟩
  ·exact hk b o (fun z=>by rw[z,e]at n;cases n) q
  ·exact⟨o.slots,hk b o (fun z=>by rw[z,e]at n;cases n) q⟩
  ·rw[aa (fun z=>by rw[z,e]at n;cases n),aa (Nat.ne_of_lt (Heap.lt_size q))]
   exact n
  ·by_cases hb:b=ea
   ·rw[hb];exact⟨_,hx'⟩
   ·exact⟨o,hk b o hb q⟩
  ·rw[old b (by rw[q];exact fun z=>nomatch z) (fun z=>by rw[z,e]at q;cases q)];exact q
  ·rw[old b (by rw[q];exact fun z=>nomatch z) (fun z=>by rw[z,e]at q;cases q)];exact q
  ·exact⟨#[],by rw[old b (by rw[q];exact fun z=>nomatch z) (fun z=>by rw[z,e]at q;cases q)];simpa using q⟩
 ·intro a v q
  by_cases ha:a=ea
  ·rw[ha,a9]at q
   cases q
   rw[ha]
   exact ue ⟨_,vs,a0,hx',hc,hd,h0,h1,rfl,h22,h5z⟩
  ·rw[aa ha]at q
   by_cases hb:a=s.heap.objs.size
   ·rw[hb,a9]at q
    cases q
    rw[hb]
    refine⟨_,hn',fun g=>?_⟩
    by_cases hg:g=f
    ·rw[if_pos hg,hg]
     simp only[List.lookup,beq_self_eq_true]
     exact ry
    ·rw[if_neg hg]
     have:(g==f)=false:=by simpa using hg
     simp only[List.lookup,this]
     exact True.intro
   ·rw[aa hb]at q
    refine (I.hok a v q).stay (fun c w' hc' z=>hk c w' (fun z2=>?_) z) (fun c hc'=>?_) fun c xs hc'=>?_
    ·rcases hc' with hc'|hc'
     ·exact ha (hc'▸z2)
     ·rw[z2,e]at hc';cases hc'
    ·rw[aa (fun z=>by rw[z,e]at hc';cases hc'),aa (fun z=>by rw[z,dn]at hc';cases hc')];exact hc'
    ·rw[aa (fun z=>by rw[z,e]at hc';cases hc'),aa (fun z=>by rw[z,dn]at hc';cases hc')];exact hc'
def sFldE (C:Addr)(ta tv:TE)(f:Str):TS:=fun D σ H=>tv σ H fun y H1=>ta σ H1 fun x H2=>∃ ea,x=.ref ea∧H2 ea=some (sE ea C)∧∀ dx,H2 dx=none→dx≠ea→D.nx σ (upd (upd H2 dx (.xd [(f,y)])) ea (uf ea C dx))
theorem uU {o value:Expr}{f:Str}{pos pos':Pos}{ta tv:TE}{C:Addr} (T:vH X.K C f) (ha:PE X o ta) (hv:PE X value tv) (hs:swapsWith value (some (.Attribute o f pos')) pos.line X.env=pure false):PS X (.Assign [.Attribute o f pos'] value pos) (sFldE C ta tv f):=by
 intro pins s σ H D I h
 refine plainObj_wpAny_Assign_Attribute (thn (hv pins s σ H _ I h) fun u s1 ⟨y,H1,I1,ry,q⟩=>thn (ha pins s1 σ H1 _ I1 q) fun ov s2 ⟨x,H2,I2,rx,ea,ex,he,q2⟩=>?_) hs
 subst ex
 obtain rfl:ov=Value.ref ea:=rx
 exact uO I2 he T ry fun dx s3 h1 h2 I3=>⟨σ,_,I3,q2 dx h1 h2⟩
theorem Inv.untrack {ea:Addr}{φ:Heap→Prop} (I:Inv X pins σ H s) (e:H ea=some (.ext φ)):Inv X pins σ (hide ea H) s:=by
 have hd:∀ b,b≠ea→hide ea H b=H b:=fun b hb=>dj hb
 refine⟨I.ok,I.os,I.bare,⟨I.base.keep,I.base.slot,fun b o q n hx=>?_,I.base.there,fun b xs q=>?_,fun b o u q=>?_,fun b ps q=>?_⟩,I.loc,I.cell,?_,fun x c q=>?_,fun p hp=>?_,fun a v q=>?_,I.len⟩
 ·by_cases hb:b=ea
  ·rw[hb];exact fS
  ·rw[hd b hb];exact I.base.free b o q n hx
 ·have:=I.base.tups b xs q
  rw[hd b (fun z=>by rw[z,e]at this;cases this)];exact this
 ·have:=I.base.frzs b o u q
  rw[hd b (fun z=>by rw[z,e]at this;cases this)];exact this
 ·obtain⟨more,this⟩:=I.base.tbls b ps q
  exact⟨more,by rw[hd b (fun z=>by rw[z,e]at this;cases this)];exact this⟩
 ·by_cases hb:X.env.locals=ea
  ·rw[hb];exact fS
  ·rw[hd _ hb];exact I.free
 ·by_cases hb:c=ea
  ·rw[hb];exact fS
  ·rw[hd _ hb];exact I.freeC x c q
 ·obtain⟨q1,q2,q3⟩:=I.pin p hp
  refine⟨q1,?_,q3⟩
  by_cases hb:p.1=ea
  ·rw[hb];exact fS
  ·rw[hd _ hb];exact q2
 ·have ha:a≠ea:=fun z=>by rw[z,fS]at q;cases q
  rw[hd a ha]at q
  refine (I.hok a v q).stay (fun c v' _ z=>z) (fun c hc=>?_) fun c xs hc=>?_
  ·rw[hd c (fun z=>by rw[z,e]at hc;cases hc)];exact hc
  ·rw[hd c (fun z=>by rw[z,e]at hc;cases hc)];exact hc
end
def qP (K:Frag)(C f:Addr):Bool:=match K.lookup C with
 | some ⟨.type "type",_,.cls cd,sl⟩=>(match cd.mro,sl.toList with
  | .ref C'::bm,[_,_,_,_,some (.builtin n),_]=>C'==C&&n=="ValueError.__new__"&&!cd.hasDel&&tailIn K bC bm&&nsOkIn K cd.ns&&nsIn K cd.ns "__init__"==some (some (.ref f))
  | _,_=>false)
 | _=>false
theorem pU {K:Frag}{h:Heap}{N:Addr}{mg:Str→Option Value}{n:Str}{v:Value} (X:K.In h) (G:h.Ns N mg) (e:nsIn K N n=some (some v)):mg n=some v:=by
 obtain⟨o,es,ep,ho,hd,_,hf⟩:=G
 unfold nsIn at e
 split at e
 ·rename_i q
  have:=X _ _ q
  rw[this]at ho
  cases ho
  cases hd
  split at e
  ·rename_i he
   cases e
   rw[← hf]
   unfold nsFind findBy
   rw[← Array.find?_toList,he]
   rfl
  ·split at e <;> cases e
 ·cases e
theorem qO {K:Frag}{h:Heap}{C f:Addr} (X:K.In h) (q:qP K C f=true):
  ∃ bm N nm q bs hdct sn sub ab col dd k0 k1 k2 k3 k5 mN,K.lookup C=some (excClassObj nm q C N bs bm hdct sn sub ab col dd k0 k1 k2 k3 k5 "ValueError.__new__")∧h.Ns N mN∧mN "__init__"=some (.ref f)∧OwnTail h bC bm:=by
 unfold qP at q
 split at q
 ·rename_i dd cd sl ho
  split at q
  ·rename_i C' bm k0 k1 k2 k3 n k5 hm hs
   simp only[Bool.and_eq_true,beq_iff_eq,Bool.not_eq_true']at q
   obtain⟨⟨⟨⟨⟨rfl,rfl⟩,hdel⟩,ht⟩,hok⟩,hni⟩:=q
   obtain⟨nm,bs,mro,ns,qn,hd,sn,sub,ab,col,del⟩:=cd
   dsimp only at hm hdel hok hni
   subst hm hdel
   have hsl:sl=#[k0,k1,k2,k3,some (.builtin "ValueError.__new__"),k5]:=by
    obtain⟨l⟩:=sl
    simp only at hs
    rw[hs]
   subst hsl
   exact⟨bm,ns,nm,qn,bs,hd,sn,sub,ab,col,dd,k0,k1,k2,k3,k5,_,ho,.of_isNs (isNs_of_in X hok),pU X (.of_isNs (isNs_of_in X hok)) hni,tail_of_in X ht⟩
  ·cases q
 ·cases q
structure ExcMk (K : Frag) (C f : Addr) : Prop where
  own : qP K C f = true
  fn : isFn K (.ref f) = true
  kp : keepIn K (.ref C) = true
def DiX (P:Program)(w:World)(K:Frag)(mg:Str→Option Value)(base:Heap)(k:Nat)(x:Str)(C:Addr)(ps:List Str)(sp:Sp):Prop:=
 ∃ f fd,mg x=some (.ref C)∧ExcMk K C f∧Binds K fd ps []∧FnOk P w K mg base CX0 k f fd ps sp
section
variable {M : Model}{A : Around}{E : Value → Shared → Prop}{s : Shared}{env : Env}
variable {nm q : Str}{C N : Addr}{bs bm : List Value}{hdct : Bool}{sn : List Str}{sub : List Value}{ab : Bool}{col : Option Bool}{dd : Option Addr}{k0 k1 k2 k3 k5 : Option Value}{newId : String}
theorem kH {x:Sem Value}{Q:Flow→Shared→Prop} (hbase:bm.contains (.type "BaseException")=true) (hh:A.handled=none)
  (h:wpAny M A x (fun v s₁=>∃ e oe vs,v=.ref e∧s₁.heap.get? C=some (excClassObj nm q C N bs bm hdct sn sub ab col dd k0 k1 k2 k3 k5 newId)∧s₁.heap.get? e=some oe∧oe.cls=.ref C∧oe.data=.fields vs∧vs[1]?=some .none∧E (.ref e) s₁) E s):
  wpAny M A (raiseStmt env (some x) none) Q E s:=by
 have hcB:(Value.ref C::bm).contains (.type "BaseException")=true:=by rw[List.contains_cons,hbase,Bool.or_true]
 unfold raiseStmt
 refine wpAny_bind (wpAny_mono h (fun v s₁ h₁=>?_) fun _ _ x=>x)
 obtain⟨e,oe,vs,rfl,hC,he,hc,hd,h1,hE⟩:=h₁
 obtain⟨hp,g,d,tk,os⟩:=s₁
 obtain⟨oc,odi,oda,osl⟩:=oe
 dsimp only at hc hd
 subst hc hd
 repeat (first|with_reducible refine wpAny_loadPart_at he ?_|with_reducible refine wpAny_loadPart_at hC ?_|(with_reducible refine wpAny_isSubtype_exc hC ?_;rw[hcB])|wp_step)
 rw[h1]
 refine wpAny_pure ?_
 rw[if_neg (by decide)]
 exact wpAny_pure (wpAny_raiseNew_none hh hE)
end
section
variable {X : Cx}{k : Nat}{C : Addr}{ps : List Str}{sp : Sp}{x : Str}{np cpos pos : Pos}{e : Expr}{es : List Expr}{t : TA}{W : St → XK}
theorem Inv.madeE {pins:List (Addr×Obj)}{σ:St}{H:Hp}{s:Shared}{h':Heap}{ea:Addr}{us:List Value} (I:Inv X pins σ H s) (mk:Heap.MadeExcOf s.heap h' ea (.ref C) us):Inv X pins σ (upd H ea (sE ea C)) { s with heap:=h' }:=by
 have hH:H ea=none:=by
  cases q:H ea with
  | none=>rfl
  | some v=>
   obtain⟨o,e⟩:=cC (I.hok ea v q)
   rw[mk.new]at e;cases e
 obtain⟨t,he,htn,ht⟩:=mk.there
 have up:∀ b o,H b=some o→upd H ea (sE ea C) b=some o:=fun b o q=>by rw[aa (ag q hH)];exact q
 refine I.call' (s':={ s with heap:=h' }) (ch:=[]) rfl ⟨fun b o q n hb hx=>mk.keeps b o q,fun b o q n hb hx=>⟨o.slots,mk.keeps b o q⟩,fun b o q n hx=>?_,fun b o q hx=>⟨o,mk.keeps b o q⟩,fun b xs q=>up b _ q,fun b o u q=>up b _ q,fun b ps q=>⟨#[],by rw[up b _ q];simp⟩⟩ (fun a v q=>?_) I.bare fun b z=>absurd z (by simp)
 ·rw[aa (fun z=>by rw[z,mk.new]at q;cases q)]
  exact n
 ·by_cases ha:a=ea
  ·rw[ha,a9]at q
   cases q
   rw[ha]
   exact ue ⟨_,_,_,he,rfl,rfl,rfl,rfl,rfl,rfl,by show 4<6;decide⟩
  ·rw[aa ha]at q
   exact (I.hok a v q).stay (fun c w' _ z=>mk.keeps c w' z) (fun c hc=>up c _ hc) fun c xs hc=>up c _ hc
def uD (W:St→XK)(C:Addr)(sp:Sp)(t:TA):TS:=fun _ σ H=>t σ H fun vs H1=>vs.length≤sizeLine∧∀ ea,H1 ea=none→
 sp (.ref ea::vs) (upd H1 ea (sE ea C)) (fun v H2=>v=.non∧∃ dx,H2 ea=some (uf ea C dx)∧W σ (.ref C) (some dx) (hide ea H2)) E0
theorem rT (O:Own X)(hc:X.calm=true)(hw:rD X W)(hg:Gl X x)(D:DiX X.prog X.w X.K X.mg X.base k x C ps sp)(hr:Room (k+1) X.A)(ha:PA X (e::es) t)
  (hdb:(x==("__debug__":Str))=false:=by decide) (hst:starEach (e::es) X.env=(false,eval e X.env)::starEach es X.env:=by rfl) (hpl:(backTo cpos (starEach es X.env)).any (·.1)=false:=by rfl):
  PS X (.Raise (some (.Call (.Name x np) (e::es) [] cpos)) none pos) (uD W C sp t):=by
 obtain⟨f,fd,hm,M,hb,F⟩:=D
 intro pins s σ H D' I h
 obtain⟨tl,N,nm,qn,bs,hdct,sn,sub,ab,col,dd,k0,k1,k2,k3,k5,mN,hC,hN,hni,T⟩:=qO I.kIn M.own
 have hbase:=T.hasType PySem.F.excBase_ValueError.hasBase
 have hcall:wpAny (model X.prog X.w) X.A (eval (.Call (.Name x np) (e::es) [] cpos) X.env) (fun v s₃=>∃ e oe vs,v=.ref e∧s₃.heap.get? C=some (excClassObj nm qn C N bs tl hdct sn sub ab col dd k0 k1 k2 k3 k5 "ValueError.__new__")∧s₃.heap.get? e=some oe∧oe.cls=.ref C∧oe.data=.fields vs∧vs[1]?=some .none∧X.xe (.ref e) s₃) X.xe s:=by
  refine wpAny_Call_Name_kw (cx I hg hm ?_ hdb)
  refine callWith_K (h₀:=X.base) I.ok.mod.kin M.kp (thn (ha cpos pins s σ H _ I h) fun us s1 ⟨vs,H1,I1,r,hz,q⟩=>⟨I1.kIn,?_⟩) hst hpl
  obtain⟨tl1,N1,nm1,qn1,bs1,hdct1,sn1,sub1,ab1,col1,dd1,l0,l1,l2,l3,l5,mN1,hC1,hN1,hni1,T1⟩:=qO I1.kIn M.own
  obtain⟨of,hof,hofc⟩:=Option.map_eq_some_iff.mp (show typeIn X.K (.ref f)=some (.type "function") from beq_iff_eq.mp M.fn)
  refine uq PySem.F.excBase_ValueError T1 (I1.kIn _ _ hC1) hN1 hni1 (I1.kIn _ _ hof) hofc (by show us.length≤sizeLine;rw[← r.length];exact hz) fun h' ea mk=>?_
  have hea:H1 ea=none:=by
   cases q:H1 ea with
   | none=>rfl
   | some v=>
    obtain⟨o,e⟩:=cC (I1.hok ea v q)
    rw[mk.new]at e;cases e
  have hs0:X.s₀.heap.get? ea=none:=by
   cases q:X.s₀.heap.get? ea with
   | none=>rfl
   | some o=>
    obtain⟨o',e⟩:=I1.base.there ea o q (by rw[O.exs];simp)
    rw[mk.new]at e;cases e
  have I2:=I1.madeE mk
  have hq:=q ea hea
  have r2:Vals (V.ref ea::vs) (Value.ref ea::us):=.cons rfl r
  have hl:((Value.ref ea::us)++[]).length=ps.length:=by
   rw[List.append_nil]
   have e:=r2.length
   rw[F.len _ _ _ _ hq]at e
   exact e.symm
  have hb':=hb _ (Value.ref ea::us) I2.kIn hl
  rw[List.append_nil]at hb'
  refine wpAny_call (codeAny_mono (F.run _ X.stack _ _ ⟨Value.ref ea::us,[]⟩ (Value.ref ea::us) _ _ E0 (hr.make C us []) (I2.env0.make C us []) hb' r2 hq) fun r s' hq'=>?_)
  cases r with
  | error e=>exact False.elim hq'
  | ok fl=>
   cases fl with
   | ret u=>
    obtain⟨v,H',I3,rv,ev,dx,hM,hW⟩:=I2.after hq'
    subst ev
    refine⟨rv,?_⟩
    obtain⟨oe,ws,a0,he,hcl,hda,h0,h1,hdi,h22,_⟩:=id (show lH ea C (some dx) s'.heap from (I3.hok ea _ hM).1)
    refine⟨ea,oe,ws,rfl,I3.kIn _ _ hC,he,hcl,hda,h1,hw pins σ _ s' ea oe ws a0 (I3.untrack hM) he hda h0 h1 h22 fS hs0 ?_⟩
    rw[hcl,hdi]
    exact hW
   | next=>exact False.elim hq'
   | brk=>exact False.elim hq'
   | cont=>exact False.elim hq'
 rw[arm_exec_Raise]
 exact wpAny_bind (wpAny_standAt (kH (C:=C) (nm:=nm) (q:=qn) (N:=N) (bs:=bs) (bm:=tl) (hdct:=hdct) (sn:=sn) (sub:=sub) (ab:=ab) (col:=col) (dd:=dd) (k0:=k0) (k1:=k1) (k2:=k2) (k3:=k3) (k5:=k5) hbase (I.ok.hd hc) (wpAny_bind (wpAny_mono hcall (fun v s₃ h₃=>wpAny_bind (wpAny_standAt (wpAny_pure h₃))) fun _ _ x=>x))))
end
end L2
namespace L2
open PySem PySem.Spec PyProof.Rows
def excP (ea:Addr)(cls:Value)(h:Heap):Prop:=∃ o vs,h.get? ea=some o∧o.cls=cls∧o.data=.fields vs∧vs[2]?=some .none
def excO (ea:Addr)(cls:Value):HO:=.ext (excP ea cls)
def excPd (ea:Addr)(cls:Value)(dx:Addr)(h:Heap):Prop:=∃ o vs,h.get? ea=some o∧o.cls=cls∧o.data=.fields vs∧o.dict=some dx∧vs[2]?=some .none
def excD (ea:Addr)(cls:Value)(dx:Addr):HO:=.ext (excPd ea cls dx)
def vz (ea:Addr)(cls:Value):Option Addr→HO
 | none=>excO ea cls
 | some dx=>excD ea cls dx
abbrev Cx.more (X:Cx)(pn:List (Addr×Obj)):Cx:={ X with pn:=X.pn++pn }
def Cx.tryX (X:Cx)(pn:List (Addr×Obj))(W:St→XK):Cx:=(X.more pn).wish fun e s'=>∃ pins σ Hc sc,Inv (X.more pn) pins σ Hc sc∧CXE X.prog X.w X.stack Hc sc (W σ) e s'
def Cx.catchX (X:Cx)(ea:Addr)(pn:List (Addr×Obj)):Cx:={ X with A:=X.A.mark (some (.ref ea)),calm:=false,pn:=X.pn++pn,xe:=fun _ _=>False }
theorem on_try {X:Cx}{pn:List (Addr×Obj)}{W:St→XK}:fB (X.tryX pn W) W:=fun pins σ H s e s' I h=>⟨pins,σ,H,s,I.unwish,h⟩
section
variable {X : Cx}{pins pn : List (Addr×Obj)}{σ : St}{H : Hp}{s : Shared}
theorem Inv.toMore (I:Inv X pins σ H s):Inv (X.more pins) [] σ H s:=
 ⟨⟨I.ok.mod,I.ok.kind,I.ok.glob,I.ok.blt,I.ok.above,I.ok.inj,I.ok.has,I.ok.cab,I.ok.hd,I.ok.frames,I.ok.stk,I.ok.exf,I.ok.bs,I.ok.bsz,I.ok.noex,I.ok.exfs,I.ok.funs,I.ok.frf⟩,I.os,I.bare,I.base,I.loc,I.cell,I.free,I.freeC,fun p hp=>I.pin p (by simpa using hp),I.hok,I.len⟩
theorem Inv.ofMore {pins':List (Addr×Obj)}(ok:X.Ok)(I:Inv (X.more pins) pins' σ H s):Inv X pins σ H s:=
 ⟨ok,I.os,I.bare,I.base,I.loc,I.cell,I.free,I.freeC,fun p hp=>I.pin p (List.mem_append_left _ hp),I.hok,I.len⟩
theorem Inv.toCatch {ea:Addr}{pins':List (Addr×Obj)} (I:Inv (X.more pins) pins' σ H s):Inv (X.catchX ea pins) [] σ H s:=
 ⟨⟨I.ok.mod,I.ok.kind,I.ok.glob,I.ok.blt,I.ok.above,I.ok.inj,I.ok.has,I.ok.cab,(fun z=>nomatch z),I.ok.frames,I.ok.stk,I.ok.exf,I.ok.bs,I.ok.bsz,I.ok.noex,I.ok.exfs,I.ok.funs,I.ok.frf⟩,I.os,I.bare,I.base,I.loc,I.cell,I.free,I.freeC,
  fun p hp=>I.pin p (List.mem_append_left _ (by simpa using (show p∈(X.pn++pins)++[] from hp))),I.hok,I.len⟩
theorem Inv.ofCatch {ea:Addr}(ok:X.Ok)(I:Inv (X.catchX ea pins) [] σ H s):Inv X pins σ H s:=
 ⟨ok,I.os,I.bare,I.base,I.loc,I.cell,I.free,I.freeC,fun p hp=>I.pin p (List.mem_append_left _ hp),I.hok,I.len⟩
theorem Inv.trackO {ea:Addr}{ho':HO}{o:Obj}{vs:Array Value} (I:Inv X pins σ H s) (hea:H ea=none) (h0:X.s₀.heap.get? ea=none) (ho:s.heap.get? ea=some o) (hd:o.data=.fields vs) (ok:∀ H2:Hp,ObjOk X.prog X.w H2 s.heap ea ho') (hp:∀ p∈X.pn++pins,p.1≠ea):Inv X pins σ (upd H ea ho') s:=by
 have neL:X.env.locals≠ea:=fun z=>by
  obtain⟨m,⟨o',_,_,ho',hd',_⟩,_⟩:=I.loc
  rw[z,ho]at ho';cases ho';rw[hd']at hd;cases hd
 have neC:∀ x c,X.env.cells.lookup x=some c→c≠ea:=fun x c e z=>by
  obtain⟨v,o',ho',hd'⟩:=I.cell x c e
  rw[z,ho]at ho';cases ho';rw[hd']at hd;cases hd
 have up:∀ {b:Addr}{u:HO},H b=some u→upd H ea ho' b=some u:=fun {b u} e=>by rw[aa (ag e hea)];exact e
 refine⟨I.ok,I.os,I.bare,⟨I.base.keep,I.base.slot,fun b o' e n hx'=>?_,I.base.there,fun b xs e=>up (I.base.tups b xs e),fun b ob u e=>up (I.base.frzs b ob u e),fun b ps e=>?_⟩,I.loc,I.cell,?_,fun x c e=>?_,fun p hp'=>?_,fun a u e=>?_,I.len⟩
 ·have:b≠ea:=fun z=>by rw[z,h0]at e;cases e
  rw[aa this]
  exact I.base.free b o' e n hx'
 ·obtain⟨more,q⟩:=I.base.tbls b ps e
  exact⟨more,up q⟩
 ·rw[aa neL];exact I.free
 ·rw[aa (neC x c e)];exact I.freeC x c e
 ·obtain⟨e,n,r⟩:=I.pin p hp'
  exact⟨e,by rw[aa (hp p hp')];exact n,r⟩
 ·by_cases ha:a=ea
  ·rw[ha,a9]at e
   cases e
   rw[ha]
   exact ok _
  ·rw[aa ha]at e
   exact (I.hok a u e).stay (fun c v _ q=>q) (fun b hb=>up hb) fun b xs hb=>up hb
theorem vx {P:Program}{w:World}{H:Hp}{h:Heap}{ea:Addr}{cls:Value}{o:Obj}{vs:Array Value} (ho:h.get? ea=some o) (hc:o.cls=cls) (hd:o.data=.fields vs) (h2:vs[2]?=some .none):ObjOk P w H h ea (vz ea cls o.dict):=by
 cases hod:o.dict with
 | none=>exact⟨⟨o,vs,ho,hc,hd,h2⟩,⟨o,ho⟩,fun h1 h2 ⟨o1,vs1,q1,q2,q3⟩ k=>⟨o1,vs1,k o1 q1,q2,q3⟩⟩
 | some dx=>exact⟨⟨o,vs,ho,hc,hd,hod,h2⟩,⟨o,ho⟩,fun h1 h2 ⟨o1,vs1,q1,q2,q3⟩ k=>⟨o1,vs1,k o1 q1,q2,q3⟩⟩
theorem fM {M:Model}{A:Around}{E:Value→Shared→Prop}{i:Nat}{n:Str}{pos:Pos}{Q:Unit→Shared→Prop} (I:Inv X pins σ H s) (hN:X.N.Nodup) (hi:X.N[i]?=some n) (hk:X.env.scope.names.lookup n=some .local)
  (h:∀ s',Inv X pins (σ.set i none) H s'→Q () s'):wpAny M A (do bindName X.env n .none;unbindBehindTheSuite X.env n pos) Q E s:=by
 obtain⟨m,hn,hl⟩:=id I.loc
 have hcls:(X.env.scope.kind==.class || (X.env.scope.kind==.module&&X.env.locals != X.env.globals))=false:=by rw[I.ok.kind];rfl
 have hiσ:i<σ.length:=by rw[I.len];exact (List.getElem?_eq_some_iff.mp hi).1
 have cne:=I.cne
 refine wpAny_nameGoes_keeps hk hn hcls fun h' v hn' hs=>?_
 obtain⟨oL,_,_,hoL,_⟩:=id hn
 have tracked:HOk X.prog X.w H h':=fun b ob e=>by
  refine (I.hok b ob e).stay (fun c w' hc q=>(hs.2 c ?_).trans q) (fun _ q=>q) fun _ _ q=>q
  rintro rfl
  have hfree:=I.free
  rcases hc with rfl|hc
  ·rw[hfree]at e;cases e
  ·rw[hfree]at hc;cases hc
 refine h _ ⟨I.ok,I.os,I.bare,⟨fun b o e n hb hx=>?_,fun b o e n hb hx=>?_,I.base.free,fun b o e hx=>?_,I.base.tups,I.base.frzs,I.base.tbls⟩,⟨_,hn',fun j y v' e1 e2 e3=>?_⟩,fun y c e=>?_,I.free,I.freeC,fun p hp=>?_,tracked,by simpa using I.len⟩
 ·exact (hs.2 b (Nat.ne_of_lt (Nat.lt_of_lt_of_le (Heap.lt_size e) I.ok.above))).trans (I.base.keep b o e n hb hx)
 ·obtain⟨sl,e1⟩:=I.base.slot b o e n hb hx
  exact⟨sl,(hs.2 b (Nat.ne_of_lt (Nat.lt_of_lt_of_le (Heap.lt_size e) I.ok.above))).trans e1⟩
 ·obtain⟨o',e1⟩:=I.base.there b o e hx
  exact⟨o',(hs.2 b (Nat.ne_of_lt (Nat.lt_of_lt_of_le (Heap.lt_size e) I.ok.above))).trans e1⟩
 ·by_cases hj:j=i
  ·subst hj
   rw[List.getElem?_set_self hiσ]at e2
   cases e2
  ·rw[List.getElem?_set_ne (Ne.symm hj)]at e2
   obtain⟨u',r',q⟩:=hl j y v' e1 e2 e3
   refine⟨u',r',?_⟩
   rcases q with⟨k,e⟩|⟨k,c,e,z⟩
   ·refine .inl ⟨k,?_⟩
    have:y≠n:=fun e=>hj (jS hN e1 (e▸hi))
    simp[this,e]
   ·exact .inr ⟨k,c,e,z.sameBut hs (cne y c e)⟩
 ·obtain⟨w',z⟩:=I.cell y c e
  exact⟨w',z.sameBut hs (cne y c e)⟩
 ·obtain⟨e,n,ne,nf,d⟩:=I.pin p hp
  exact⟨(hs.2 p.1 ne).trans e,n,ne,nf,d⟩
end
def tTry (K:PySem.W.Frag)(C:Addr)(i:Nat)(tb:(St→XK)→TS)(th:TS):TS:=fun D σ H=>
 tb (fun σ' cls od H'=>PySem.W.exmOne K cls (.ref C)=some true∧∀ ea,H' ea=none→
  th { D with nx:=fun σ2 H2=>D.nx (σ2.set i none) H2,bk:=fun σ2 H2=>D.bk (σ2.set i none) H2,ct:=fun σ2 H2=>D.ct (σ2.set i none) H2 } (σ'.set i (some (.ref ea))) (upd H' ea (vz ea cls od))) D σ H
theorem ps_try {X:Cx}{body suite:List Stmt}{b₀:Stmt}{x n:Str}{np hpos pos:Pos}{i:Nat}{C:Addr}{tb:(St→XK)→TS}{th:TS} (O:Own X) (hN:X.N.Nodup) (hi:X.N[i]?=some n) (hk:X.env.scope.names.lookup n=some .local)
  (hg:Gl X x) (hm:X.mg x=some (.ref C)) (hb:∀ pn W,PSs (X.tryX pn W) body (tb W)) (hh:∀ ea pn,PSs (X.catchX ea pn) (b₀::suite) th) (hdb:(x==("__debug__":Str))=false:=by decide):
  PS X (.Try body [.ExceptHandler (some (.Name x np)) (some n) (b₀::suite) hpos] [] [] pos) (tTry X.K C i tb th):=by
 intro pins s σ H D I h
 refine wpAny_Try_except ?_
 refine wpAny_mono (hb pins _ [] s σ H D (I.toMore.wish _) h) (fun f s1 q=>?_) (fun e s1 q=>?_)
 ·cases f with
  | next=>
   obtain⟨σ',H',I',q⟩:=q
   exact wpAny_execs_nil ⟨σ',H',Inv.ofMore I.ok I'.unwish,q⟩
  | brk=>obtain⟨σ',H',I',q⟩:=q;exact⟨σ',H',Inv.ofMore I.ok I'.unwish,q⟩
  | cont=>obtain⟨σ',H',I',q⟩:=q;exact⟨σ',H',Inv.ofMore I.ok I'.unwish,q⟩
  | ret u=>obtain⟨v,σ',H',I',r,q⟩:=q;exact⟨v,σ',H',Inv.ofMore I.ok I'.unwish,r,q⟩
 ·obtain⟨pins',σ',Hc,sc,Ic,ea,cls,a0,B,H',od,di,rfl,os,bare,u,hok,hea,hsc,fl,old,hW,hth⟩:=q
  have I1:Inv (X.more pins) pins' σ' H' s1:=Ic.call' os u hok bare fun b z=>absurd z (by simp)
  have fl':=fl
  rw[O.stk]at fl'
  have hfr0:X.A.frames=some (X.env::X.outer):=by rw[I.ok.frames,O.stk]
  refine wpAny_mono (dU (wpAny_looks_onW (Q:=fun _ s'=>∃ h4,s'={ s1 with heap:=h4 }∧Heap.HeldW B (X.env::X.outer) ea cls a0 X.env.locals h4∧s1.heap.UpToSlots h4) (E:=fun _ _=>False) hfr0 O.frm fl' fun h4 held up4=>⟨h4,rfl,held,up4⟩) (sf (E:=fun _ _=>False) hfr0 fl'.2.2.1 O.frm fl'.2.2.2 di)) (fun _ s4 z4=>?_) (fun _ _ z=>z.1.elim)
  obtain⟨⟨h4,rfl,held,up4⟩,d4⟩:=z4
  refine wpAny_mono (dU (wpAny_landsW (Q:=fun _ s'=>∃ h5,s'={ s1 with heap:=h5 }∧Heap.FlyingW B (X.env::X.outer) ea cls a0 h5∧h4.UpToSlots h5) (E:=fun _ _=>False) held fun h5 fl5 up5=>⟨h5,rfl,fl5,up5⟩) (lu (E:=fun _ _=>False) held.2.2.2 d4)) (fun _ s5 z5=>?_) (fun _ _ z=>z.1.elim)
  obtain⟨⟨h5,rfl,fl5,up5⟩,d5⟩:=z5
  have hfr:∀ b∈frs X.stack,∃ o,s1.heap.get? b=some o∧∀ vs,o.data≠.fields vs:=fun b hb=>by
   obtain⟨_,o,ho,hd⟩:=fl.2.2.1.mem hb
   exact⟨o,ho,hd⟩
  have at_:∀ {h6:Heap},B.StaysIn h6→s1.heap.UpToSlots h6→Inv (X.more pins) pins' σ' H' { s1 with heap:=h6 }:=fun {h6} hB up=>by
   obtain⟨u6,hok6,_⟩:=un_fly u hok fl.1 hB up hfr I1.stkFree old
   exact Ic.call' (s':={ s1 with heap:=h6 }) os u6 hok6 bare fun b z=>absurd z (by simp)
  have I5:=at_ fl5.1 (up4.trans up5)
  have J5:=I5.toCatch (ea:=ea)
  obtain⟨ob,hob,hobc⟩:=fl5.there
  refine wpAny_handleBy_cons (codeAny_handlers_test (cx (X:=X.catchX ea pins) J5 hg hm ?_ hdb)) (by intro q;cases q)
  have LT:PySem.W.Looks (model X.prog X.w) h5 (typeOf (.ref ea)) cls:=by
   subst hobc
   exact (PySem.W.Looks.ld hob).andThen .now
  refine (PySem.W.exm_one (K:=X.K) (h:=h5) J5.kIn LT hW).here (s:={ s1 with heap:=h5 }) ?_
  show codeAny _ _ _ _ _
  refine codeAny_handlers_suite_as ?_
  have fl5':Heap.FlyingW B (X.env::X.outer) ea cls a0 h5:=fl5
  refine wpAny_mono (dU (lands_againW (s:={ s1 with heap:=h5 }) (Q:=fun _ s'=>∃ h6,s'={ s1 with heap:=h6 }∧Heap.FlyingW B (X.env::X.outer) ea cls a0 h6∧h5.UpToSlots h6) (E:=fun _ _=>False) fl5' fun h6 fl6 up6=>⟨h6,rfl,fl6,up6⟩) (lu (s:={ s1 with heap:=h5 }) (E:=fun _ _=>False) fl5'.2.2.2.at d5)) (fun _ s6 z6=>?_) (fun _ _ z=>z.1.elim)
  obtain⟨⟨h6,rfl,fl6,up6⟩,oe,vs,hoe,hoed,hod,h62⟩:=z6
  have I6:=at_ fl6.1 (up4.trans (up5.trans up6))
  have J6:=I6.toCatch (ea:=ea)
  have hoec:oe.cls=cls:=by
   obtain⟨oe2,_,hoe2,hc2,_⟩:=fl6.first
   rw[hoe]at hoe2
   cases hoe2
   exact hc2
  have h0:X.s₀.heap.get? ea=none:=by
   cases q:X.s₀.heap.get? ea with
   | none=>rfl
   | some o=>
    obtain⟨o',e⟩:=Ic.base.there ea o q (by rw[show (X.more pins).ex=[] from O.exs];simp)
    rw[hsc]at e;cases e
  have J7:=J6.trackO (ho':=vz ea cls od) hea h0 hoe hoed (fun H2=>by have:=vx (P:=X.prog) (w:=X.w) (H:=H2) hoe hoec hoed h62;rw[hod]at this;exact this) (fun p hp z=>by
   have:=(Ic.pin p (List.mem_append_left _ (by simpa using (show p∈(X.pn++pins)++[] from hp)))).1
   rw[z,hsc]at this;cases this)
  refine gQ (X:=X.catchX ea pins) (pins:=[]) (σ:=σ') (H:=upd H' ea (vz ea cls od)) (i:=i) (v:=.ref ea) J7 hN hi (.inl hk) rfl (fun s8 J8=>?_) (.inr hk)
  refine wpAny_mono (hh ea pins [] s8 _ _ _ J8 (hth ea hea)) (fun f s9 q9=>?_) (fun _ _ z=>False.elim z)
  cases f with
  | next=>
   obtain⟨σ9,H9,I9,q⟩:=q9
   exact fM (X:=X.catchX ea pins) I9 hN hi hk fun s10 I10=>⟨_,H9,Inv.ofCatch I.ok I10,q⟩
  | brk=>
   obtain⟨σ9,H9,I9,q⟩:=q9
   exact fM (X:=X.catchX ea pins) I9 hN hi hk fun s10 I10=>⟨_,H9,Inv.ofCatch I.ok I10,q⟩
  | cont=>
   obtain⟨σ9,H9,I9,q⟩:=q9
   exact fM (X:=X.catchX ea pins) I9 hN hi hk fun s10 I10=>⟨_,H9,Inv.ofCatch I.ok I10,q⟩
  | ret u=>
   obtain⟨v,σ9,H9,I9,r,q⟩:=q9
   exact fM (X:=X.catchX ea pins) I9 hN hi hk fun s10 I10=>⟨v,_,H9,Inv.ofCatch I.ok I10,r,q⟩
end L2
namespace L2
open PySem PySem.Spec PySem.Calls PySem.W PyProof.Rows
open PySem.Builtin PySem.Builtin.ObjectAttr PySem.Builtin.Getset_descriptor
section
variable {prog : Program}{w : World}{A : Around}{E : Value → Shared → Prop}{s : Shared}{K : Frag}{x D : Addr}
theorem sD {M:Model}{o:Obj}{nameV:Value}{Q:Unit→Shared→Prop}{h:Heap}{g:Array GenState}{d:Drawn}{t:Nat}{os:OsState} (X:K.In h) (hx:h.get? x=some o) (hc:o.cls=.ref D) (hm:mroIn K D (.type "BaseException")=some true)
  (hq:Q () ⟨h,g,d,t,os⟩):wpAny M A (checkBuiltinCall "BaseException.__getattribute__" ⟨[.ref x,nameV],[]⟩) Q E ⟨h,g,d,t,os⟩:=by
 have hk:builtinKind "BaseException.__getattribute__"=some .slot:=by decide +kernel
 have hsplit:splitId "BaseException.__getattribute__"=some ("BaseException","__getattribute__"):=by decide +kernel
 have ha:=F.args_bexc_ga (.ref x) nameV
 have L1:=looks_mroIn (M:=M) X hm
 simp only[checkBuiltinCall,hk,hsplit]
 refine wpAny_bind ?_
 ·unfold isInstance
  repeat (first|(with_reducible refine wpAny_loadPart_at hx ?_;rw[hc])|with_reducible refine L1.at ?_|wp_step)
  exact hq
structure ExcK (K : Frag) (D : Addr) : Prop where
  ga : findIn K (.ref D) "__getattribute__" = some (some (.builtin "BaseException.__getattribute__"))
  gt : findIn K (.ref D) "__getattr__" = some none
  cl : findIn K (.ref D) "__class__" = some (some (.builtin "object.__class__"))
  gg : specialIn K (.builtin "object.__class__") "__get__" = some (some (.builtin "getset_descriptor.__get__"))
  tk : takesIn K (.builtin "object.__class__") = some true
  mo : mroIn K D (.type "object") = some true
  mb : mroIn K D (.type "BaseException") = some true
  ic : hasDictIn K D = true
theorem vw {o od:Obj}{name:Str}{v:Value}{expr:Bool}{Q:Value→Shared→Prop} (T:ExcK K D) (X:K.In s.heap) (I:InstAt s.heap x o D (some od)) (hf:findObj K D (some od) name=some (.value v)) (hh:handedIn v=true) (h:Q v { s with toks:=s.toks+1 }):
  wpAny (model prog w) A (getAttr (.ref x) name expr) Q E s:=by
 obtain⟨hh',g,d,t,os⟩:=s
 have hx:=I.at_
 have hc:=I.cls
 have L0:=I.type (M:=model prog w)
 have L1:=looks_findIn (M:=model prog w) X T.ga
 have L2:=looks_findIn (M:=model prog w) X T.gt
 have L3:=looks_find (M:=model prog w) X I hf
 have f3:=F.attr_ValueError.ga.bind (.ref x)
 unfold getAttr getAttrBy
 refine wpAny_bind (wpAny_mkText (wpAny_holding (wpAny_bind (L0.at (wpAny_bind (L1.at ?_))))))
 show wpAny _ _ (getAttrByItsOwn _ _ _ _ _ _) _ _ _
 unfold getAttrByItsOwn hookBefore
 refine wpAny_bind ?_
 show wpAny _ _ (typeLookup (.ref D) "__getattr__") _ _ _
 refine L2.at ?_
 refine wpAny_bind (wpAny_attempt (wpAny_holding ?_))
 unfold callGetattribute
 rw[if_neg (by cases expr <;> simp[onTheHeap])]
 unfold boundAndCalled
 rw[f3]
 refine wpAny_bind (wpAny_pure ?_)
 refine wpAny_call (codeAny_call_builtin F.attr_ValueError.ga.plain F.entry_bexc_ga (sD X hx hc T.mb ?_))
 repeat (any_goals (first|assumption|(with_reducible refine wpAny_loadPart_at hx ?_;rw[hc])|with_reducible refine L3.at ?_|wp_step))
 show wpAny _ _ (handedOut v) _ _ _
 rw[handedOut_of hh]
 exact wpAny_pure h
end
section
variable {X : Cx}
structure vI (K : Frag) (D : Addr) (f : Str) : Prop where
  k : ExcK K D
  na : findIn K (.ref D) f = some none
theorem vp {pins:List (Addr×Obj)}{σ:St}{H:Hp}{s:Shared}{A:Around}{E:Value→Shared→Prop}{ea D dx:Addr}{f:Str}{fs:List (Str×V)}{v:V}{b:Bool}{Q:Value→Shared→Prop} (I:Inv X pins σ H s) (he:H ea=some (excD ea (.ref D) dx)) (hx:H dx=some (.xd fs)) (T:vI X.K D f) (l:fs.lookup f=some v)
  (h:∀ u s',Inv X pins σ H s'→RelV v u→Q u s'):wpAny (model X.prog X.w) A (getAttr (.ref ea) f b) Q E s:=by
 obtain⟨o,ws,ho,hc,hd,hdi,_⟩:=id (show excPd ea (.ref D) dx s.heap from (I.hok ea _ he).1)
 obtain⟨mA,hns,r⟩:=id (show ∃ mA,s.heap.Ns1 dx mA∧∀ f,RelO (fs.lookup f) (mA f) from I.hok dx _ hx)
 obtain⟨od,hod,hl⟩:=lq hns
 have J:InstAt s.heap ea o D (some od):=⟨ho,hc,by unfold notCls;rw[hd],by rw[hdi];exact hod⟩
 obtain⟨u,hu,ru⟩:=RelO.some_of (v:=v) (o:=mA f) (by rw[← l];exact r f)
 exact vw T.k I.kIn J (findObj_own T.k.ic T.na rfl (by rw[hl,hu])) (lD ru) (h u _ (I.tok _) ru)
def tFldX (K:Frag)(ta:TE)(f:Str):TE:=fun σ H Q=>ta σ H fun x H1=>∃ ea D dx fs v,x=.ref ea∧H1 ea=some (excD ea (.ref D) dx)∧H1 dx=some (.xd fs)∧vI K D f∧fs.lookup f=some v∧Q v H1
theorem v0 {e:Expr}{f:Str}{pos:Pos}{ta:TE} (he:PE X e ta) (hb:attributeBase e f X.env (eval e X.env)=eval e X.env):PE X (.Attribute e f pos) (tFldX X.K ta f):=by
 intro pins s σ H Q I h
 refine rA hb (thn (he pins s σ H _ I h) fun u s1 ⟨x,H1,I1,rx,ea,D,dx,fs,v,ex,h1,h2,T,l,q⟩=>?_)
 subst ex
 obtain rfl:u=Value.ref ea:=rx
 exact vp I1 h1 h2 T l fun u' s2 I2 ru=>⟨v,H1,I2,ru,q⟩
end
end L2
namespace L2
open PySem PySem.Spec PyProof.Rows
section
variable {κ : Type}[DecidableEq κ]
def aY (kvs:List (κ×V))(k:κ):Option V:=(kvs.find? fun kv=>decide (kv.1=k)).map (·.2)
def cz (kvs:List (κ×V))(k:κ)(v:V):List (κ×V):=
 if (kvs.any fun kv=>decide (kv.1=k))=true then kvs.map (fun kv=>if kv.1=k then (kv.1,v) else kv) else kvs++[(k,v)]
theorem bU {p:κ×V}{r:List (κ×V)}{k:κ} (e:p.1=k):aY (p::r) k=some p.2:=by simp[aY,List.find?_cons,e]
theorem bV {p:κ×V}{r:List (κ×V)}{k:κ} (e:¬ p.1=k):aY (p::r) k=aY r k:=by simp[aY,List.find?_cons,e]
theorem jq (k:κ):∀ kvs:List (κ×V),(kvs.any fun kv=>decide (kv.1=k))=(aY kvs k).isSome
 | []=>rfl
 | p::r=>by
  rw[List.any_cons]
  by_cases e:p.1=k
  ·simp only[bU e,decide_eq_true e,Bool.true_or,Option.isSome_some]
  ·rw[bV e,decide_eq_false e,Bool.false_or];exact jq k r
theorem fq (kvs:List (κ×V))(k:κ)(v:V):(cz kvs k v).length≤kvs.length+1:=by
 unfold cz
 split
 ·rw[List.length_map];omega
 ·rw[List.length_append,List.length_cons,List.length_nil];omega
theorem d0 {kvs:List (κ×V)}{k:κ} (v:V) (h:aY kvs k=none):cz kvs k v=kvs++[(k,v)]:=by
 unfold cz
 rw[jq,h]
 exact if_neg (by decide)
theorem RelO.isSome_eq {o:Option V}{u:Option Value} (r:RelO o u):o.isSome=u.isSome:=by
 cases o with
 | none=>cases u with
  | none=>rfl
  | some _=>exact (show False from r).elim
 | some _=>cases u with
  | none=>exact (show False from r).elim
  | some _=>rfl
theorem KV.val {kvs:List (κ×V)}{vs:List (κ×Value)} (r:KV kvs vs) (k:κ):RelO (aY kvs k) (valueAt vs k):=by
 unfold KV at r
 induction r with
 | nil=>exact True.intro
 | @cons p q ps qs h t ih=>
  obtain⟨h1,h2⟩:=h
  by_cases e:p.1=k
  ·have e':q.1=k:=h1.symm.trans e
   have b:valueAt (q::qs) k=some q.2:=by simp[valueAt,List.find?_cons,e']
   rw[bU e,b];exact h2
  ·have e':¬ q.1=k:=fun z=>e (h1.trans z)
   have b:valueAt (q::qs) k=valueAt qs k:=by simp[valueAt,List.find?_cons,e']
   rw[bV e,b];exact ih
theorem KV.any {kvs:List (κ×V)}{vs:List (κ×Value)} (r:KV kvs vs) (k:κ):(kvs.any fun kv=>decide (kv.1=k))=vs.any fun kv=>decide (kv.1=k):=by
 unfold KV at r
 induction r with
 | nil=>rfl
 | cons h t ih=>rw[List.any_cons,List.any_cons,ih,h.1]
theorem KV.repl {kvs:List (κ×V)}{vs:List (κ×Value)} (r:KV kvs vs) (k:κ) {y:V}{u:Value} (ry:RelV y u):
  KV (kvs.map fun kv=>if kv.1=k then (kv.1,y) else kv) (vs.map fun kv=>if kv.1=k then (kv.1,u) else kv):=by
 unfold KV at r ⊢
 induction r with
 | nil=>exact .nil
 | @cons p q ps qs h t ih=>
  rw[List.map_cons,List.map_cons]
  refine .cons ?_ ih
  obtain⟨h1,h2⟩:=h
  by_cases e:p.1=k
  ·rw[if_pos e,if_pos (h1.symm.trans e)];exact⟨h1,ry⟩
  ·rw[if_neg e,if_neg (fun z=>e (h1.trans z))];exact⟨h1,h2⟩
theorem KV.put {kvs:List (κ×V)}{vs:List (κ×Value)} (r:KV kvs vs) (k:κ) {y:V}{u:Value} (ry:RelV y u):KV (cz kvs k y) (stored vs k u):=by
 unfold cz stored
 rw[r.any k]
 by_cases e:(vs.any fun kv=>decide (kv.1=k))=true
 ·rw[if_pos e,if_pos e];exact r.repl k ry
 ·rw[if_neg e,if_neg e];exact Paired.snoc r ⟨rfl,ry⟩
theorem KV.length {kvs:List (κ×V)}{vs:List (κ×Value)} (r:KV kvs vs):kvs.length=vs.length:=Paired.length r
end
theorem jX {P:Program}{w:World}{k:Key}{u:Value} (r:RelV (kV k) u):(aM P w).is k u=true:=by
 cases k with
 | inl i=>obtain⟨t,e⟩:=(show ∃ t,u=Value.int i t from r);subst e;exact og P w i t
 | inr x=>obtain⟨t,e⟩:=(show ∃ t,u=Value.str x t from r);subst e;exact oa P w x t
theorem lA {P:Program}{w:World}:∀ {ks:List Key}{us:List Value},Vals (ks.map kV) us→ItemsAre (aM P w) ks us
 | [],_,r=>by rw[List.map_nil]at r;cases r;exact .nil
 | k::ks,_,r=>by
  rw[List.map_cons]at r
  cases r with
  | cons h t=>exact .cons (jX h) (lA t)
abbrev KT (H:Hp):List (List Key×V)→List (List Key×Addr×Value)→Prop:=Paired fun p q=>p.1=q.1∧H q.2.1=some (.tup (p.1.map kV))∧RelV p.2 q.2.2
theorem KT.val {H:Hp}{kvs:List (List Key×V)}{xs:List (List Key×Addr×Value)} (r:KT H kvs xs) (k:List Key):RelO (aY kvs k) ((atKey xs k).map (·.2)):=by
 induction r with
 | nil=>exact True.intro
 | @cons p q ps qs h t ih=>
  obtain⟨h1,_,h2⟩:=h
  by_cases e:p.1=k
  ·have e':q.1=k:=h1.symm.trans e
   have b:atKey (q::qs) k=some q.2:=by simp[atKey,List.find?_cons,e']
   rw[bU e,b];exact h2
  ·have e':¬ q.1=k:=fun z=>e (h1.trans z)
   have b:atKey (q::qs) k=atKey qs k:=by simp[atKey,List.find?_cons,e']
   rw[bV e,b];exact ih
theorem KT.repl {H:Hp}{kvs:List (List Key×V)}{xs:List (List Key×Addr×Value)} (r:KT H kvs xs) (k:List Key) {y:V}{u:Value} (ry:RelV y u):
  KT H (kvs.map fun kv=>if kv.1=k then (kv.1,y) else kv) (xs.map (putAt k u)):=by
 induction r with
 | nil=>exact .nil
 | @cons p q ps qs h t ih=>
  rw[List.map_cons,List.map_cons]
  refine .cons ?_ ih
  obtain⟨h1,h2,h3⟩:=h
  unfold putAt
  by_cases e:p.1=k
  ·rw[if_pos e,if_pos (h1.symm.trans e)];exact⟨h1,h2,ry⟩
  ·rw[if_neg e,if_neg (fun z=>e (h1.trans z))];exact⟨h1,h2,h3⟩
theorem KT.put {H:Hp}{kvs:List (List Key×V)}{xs:List (List Key×Addr×Value)} (r:KT H kvs xs) (k:List Key) {b:Addr}{y:V}{u:Value} (hb:H b=some (.tup (k.map kV))) (ry:RelV y u):
  KT H (cz kvs k y) (storedH xs k b u):=by
 have e:(kvs.any fun kv=>decide (kv.1=k))=(atKey xs k).isSome:=by
  rw[jq,(r.val k).isSome_eq,Option.isSome_map]
 unfold cz storedH
 rw[e]
 by_cases q:(atKey xs k).isSome=true
 ·rw[if_pos q,if_pos q];exact r.repl k ry
 ·rw[if_neg q,if_neg q];exact Paired.snoc r ⟨rfl,hb,ry⟩
theorem KT.keeps {H H':Hp}{kvs:List (List Key×V)}{xs:List (List Key×Addr×Value)} (r:KT H kvs xs) (ht:∀ b ys,H b=some (.tup ys)→H' b=some (.tup ys)):KT H' kvs xs:=
 Paired.mapP r fun _ _ z=>⟨z.1,ht _ _ z.2.1,z.2.2⟩
section
variable {P : Program}{w : World}{H : Hp}{h : Heap}{a : Addr}
theorem rd_of {u:HO}(ok:HOk P w H h)(e:Rd H a u):ObjOk P w H h a u:=e.ok ok
theorem oM {kvs:List (Key×V)}(ok:HOk P w H h)(e:Rd H a (.dK kvs)):kvs.length≤sizeLine∧(a==sysModules)=false∧∃ vs,KV kvs vs∧h.DictOf (aM P w) a vs:=
 show ObjOk P w H h a (.dK kvs) from rd_of ok e
theorem dk_of {kvs:List (Key×V)}(ok:HOk P w H h)(e:H a=some (.dK kvs)):kvs.length≤sizeLine∧(a==sysModules)=false∧∃ vs,KV kvs vs∧h.DictOf (aM P w) a vs:=oM ok (.inl e)
theorem jW {ks:List Key}(ok:HOk P w H h)(e:H a=some (.tup (ks.map kV))):(tupleKind (aM P w)).is h ks a:=by
 obtain⟨_,its,r,o,h1,h2,n,h3⟩:=(show ObjOk P w H h a (.tup (ks.map kV)) from ok a _ e)
 exact⟨o,its.toArray,n,h1,h2,h3,by simpa using lA r⟩
theorem oH {kvs:List (List Key×V)}(ok:HOk P w H h)(e:Rd H a (.dT kvs)):kvs.length≤sizeLine∧(a==sysModules)=false∧
  ∃ xs,KT H kvs xs∧h.DictOfH (tupleKind (aM P w)) a xs:=by
 obtain⟨z,y,xs,r,o,es,ep,h1,h2,h3,h4,h5⟩:=(show ObjOk P w H h a (.dT kvs) from rd_of ok e)
 refine⟨z,y,xs,r,o,es,ep,h1,h2,h3,h4,fun x hx=>?_,h5⟩
 have all:∀ {l:List (List Key×V)}{m:List (List Key×Addr×Value)},KT H l m→∀ x∈m,(tupleKind (aM P w)).is h x.1 x.2.1:=by
  intro l m q
  induction q with
  | nil=>intro x hx;exact nomatch hx
  | @cons p q ps qs hq t ih=>
   intro x hx
   rcases List.mem_cons.mp hx with e|hx
   ·subst e
    exact jW ok (by rw[← hq.1];exact hq.2.1)
   ·exact ih x hx
 exact all r x hx
theorem dt_of {kvs:List (List Key×V)}(ok:HOk P w H h)(e:H a=some (.dT kvs)):kvs.length≤sizeLine∧(a==sysModules)=false∧
  ∃ xs,KT H kvs xs∧h.DictOfH (tupleKind (aM P w)) a xs:=oH ok (.inl e)
end
def DGet (H:Hp)(a:Addr)(y:V)(r:Option V):Prop:=
 (∃ kvs k,Rd H a (.dK kvs)∧y=kV k∧r=aY kvs k)∨∃ kvs k b,Rd H a (.dT kvs)∧y=.ref b∧H b=some (.tup (k.map kV))∧r=aY kvs k
def DPut (H:Hp)(a:Addr)(y v:V)(H':Hp):Prop:=
 (∃ kvs k,H a=some (.dK kvs)∧y=kV k∧kvs.length<sizeLine∧H'=upd H a (.dK (cz kvs k v))) ∨
 ∃ kvs k b,H a=some (.dT kvs)∧y=.ref b∧H b=some (.tup (k.map kV))∧kvs.length<sizeLine∧H'=upd H a (.dT (cz kvs k v))
theorem DGet.k {H:Hp}{a:Addr}{kvs:List (Key×V)}{k:Key} (e:H a=some (.dK kvs)):DGet H a (kV k) (aY kvs k):=.inl ⟨kvs,k,.inl e,rfl,rfl⟩
theorem DPut.k {H:Hp}{a:Addr}{kvs:List (Key×V)}{k:Key}{v:V} (e:H a=some (.dK kvs)) (hl:kvs.length<sizeLine):DPut H a (kV k) v (upd H a (.dK (cz kvs k v))):=.inl ⟨kvs,k,e,rfl,hl,rfl⟩
section
variable {X : Cx}{pins : List (Addr×Obj)}{σ : St}{H : Hp}{s : Shared}{a : Addr}{y v : V}{u r : Value}{o : Option V}{A : Around}{E : Value → Shared → Prop}
theorem Inv.big (I:Inv X pins σ H s):sysModules<s.heap.objs.size:=by
 have h:mainGlobals<s.heap.objs.size:=(I.mod.glob.keeps I.bk).lt
 exact Nat.lt_trans (by decide) h
theorem sG {Q:Value→Shared→Prop}(hu:A.units+1<cLine)(I:Inv X pins σ H s)(g:DGet H a y (some v))(ry:RelV y u)(h:∀ w' s',Inv X pins σ H s'→RelV v w'→Q w' s'):
  wpAny (model X.prog X.w) A (getItem (.ref a) u) Q E s:=by
 rcases g with⟨kvs,k,e,ey,l⟩|⟨kvs,k,b,e,ey,eb,l⟩
 ·subst ey
  obtain⟨z,hd,vs,rel,dd⟩:=oM I.hok e
  obtain⟨w',hw,rw'⟩:=RelO.some_of (v:=v) (o:=valueAt vs k) (by rw[l];exact rel.val k)
  exact wpAny_getItem_of (jX ry) dd.mapOf hw (h w' _ (I.tok _) rw')
 ·subst ey
  cases (show u=Value.ref b from ry)
  obtain⟨z,hd,xs,rel,dd⟩:=oH I.hok e
  obtain⟨w',hw,rw'⟩:=RelO.some_of (v:=v) (o:=(atKey xs k).map (·.2)) (by rw[l];exact rel.val k)
  obtain⟨p,hp,hp2⟩:=Option.map_eq_some_iff.mp hw
  refine wpAny_getItem_heap (tupleKind_room_in1 hu) (jW I.hok eb) dd hp ?_
  rw[hp2]
  exact h w' _ (I.tok _) rw'
theorem d_in {Q:Value→Shared→Prop}(hu:A.units+1<cLine)(I:Inv X pins σ H s)(g:DGet H a y o)(ry:RelV y u)(h:∀ s',Inv X pins σ H s'→Q (.bool o.isSome) s'):
  wpAny (model X.prog X.w) A (compareOp .In u (.ref a)) Q E s:=by
 rcases g with⟨kvs,k,e,ey,l⟩|⟨kvs,k,b,e,ey,eb,l⟩
 ·subst ey
  obtain⟨z,hd,vs,rel,dd⟩:=oM I.hok e
  refine wpAny_in_of (jX ry) hd dd.mapOf ?_
  rw[← (rel.val k).isSome_eq,← l]
  exact h _ (I.tok _)
 ·subst ey
  cases (show u=Value.ref b from ry)
  obtain⟨z,hd,xs,rel,dd⟩:=oH I.hok e
  refine wpAny_in_heap (tupleKind_room_in1 hu) (jW I.hok eb) hd dd ?_
  have q:=(rel.val k).isSome_eq
  rw[Option.isSome_map]at q
  rw[← q,← l]
  exact h _ (I.tok _)
theorem vB {Q:Value→Shared→Prop}(hu:A.units+1<cLine)(I:Inv X pins σ H s)(g:DGet H a y o)(ry:RelV y u)(h:∀ s',Inv X pins σ H s'→Q (.bool (!o.isSome)) s'):
  wpAny (model X.prog X.w) A (compareOp .NotIn u (.ref a)) Q E s:=by
 rcases g with⟨kvs,k,e,ey,l⟩|⟨kvs,k,b,e,ey,eb,l⟩
 ·subst ey
  obtain⟨z,hd,vs,rel,dd⟩:=oM I.hok e
  refine wpAny_notIn_of (jX ry) hd dd.mapOf ?_
  rw[← (rel.val k).isSome_eq,← l]
  exact h _ (I.tok _)
 ·subst ey
  cases (show u=Value.ref b from ry)
  obtain⟨z,hd,xs,rel,dd⟩:=oH I.hok e
  refine wpAny_notIn_heap (tupleKind_room_in1 hu) (jW I.hok eb) hd dd ?_
  have q:=(rel.val k).isSome_eq
  rw[Option.isSome_map]at q
  rw[← q,← l]
  exact h _ (I.tok _)
theorem mL {h':Heap}{t':Nat}{ob:HO} (I:Inv X pins σ H s) (mu:Mut (H a)) (hs:Heap.SameBut a s.heap h') (he:∃ q,h'.get? a=some q) (new:ObjOk X.prog X.w (upd H a ob) h' a ob):
  Inv X pins σ (upd H a ob) { s with heap:=h',toks:=t' }:=
 I.write (x:=a) (e:=a) mu (.inl rfl) (fun b q hb z=>(hs.2 b hb).trans z) he new
theorem uj {P:Program}{w:World}{H':Hp}{h':Heap}{kvs:List (Key×V)}{vs:List (Key×Value)} (z:kvs.length≤sizeLine) (hd:(a==sysModules)=false) (rel:KV kvs vs) (dd:h'.DictOf (aM P w) a vs):
  ObjOk P w H' h' a (.dK kvs):=⟨z,hd,vs,rel,dd⟩
theorem sF {H':Hp}{Q:Unit→Shared→Prop} (hu:A.units+1<cLine) (I:Inv X pins σ H s) (g:DPut H a y v H') (ry:RelV y u) (rv:RelV v r) (h:∀ s',Inv X pins σ H' s'→Q () s'):
  wpAny (model X.prog X.w) A (setItem (.ref a) u r) Q E s:=by
 rcases g with⟨kvs,k,e,ey,l,eH⟩|⟨kvs,k,b,e,ey,eb,l,eH⟩
 ·subst ey eH
  obtain⟨z,hd,vs,rel,dd⟩:=dk_of I.hok e
  have hz:vs.length≤sizeLine:=by rw[← rel.length];exact z
  have hl:(cz kvs k v).length≤sizeLine:=by have:=fq kvs k v;omega
  refine wpAny_setItem_pairs (hsz:=hz) (jX ry) dd fun h' dd' hs=>h _ ?_
  have he:∃ q,h'.get? a=some q:=let ⟨q,_,_,hq,_⟩:=dd';⟨q,hq⟩
  exact mL I (by rw[e];exact True.intro) hs he (uj hl hd (rel.put k rv) dd')
 ·subst ey eH
  cases (show u=Value.ref b from ry)
  obtain⟨z,hd,xs,rel,dd⟩:=dt_of I.hok e
  have hz:xs.length≤sizeLine:=by rw[← Paired.length rel];exact z
  have hl:(cz kvs k v).length≤sizeLine:=by have:=fq kvs k v;omega
  refine wpAny_setItem_heap (hsz:=hz) (tupleKind_room_in1 hu) (jW I.hok eb) dd fun h' dd' hs=>h _ ?_
  obtain⟨q,es,ep,hq,h2,h3,h4,_,h5⟩:=dd'
  refine mL I (by rw[e];exact True.intro) hs ⟨q,hq⟩ ⟨hl,hd,_,(rel.put k eb rv).keeps fun c ys ec=>?_,q,es,ep,hq,h2,h3,h4,h5⟩
  rw[aa (bb ec e (fun z=>nomatch z))]
  exact ec
end
section
variable {X : Cx}{pins : List (Addr×Obj)}{σ : St}{H : Hp}{s : Shared}{a : Addr}{kvs : List (Key×V)}{k : Key}{u : Value}{A : Around}{E : Value → Shared → Prop}
end
def NoSl (i:Expr):Prop:=∀ ov iv,subscripted i false ov iv=operate [ov,iv] (getItem ov iv)
theorem uI {prog:Program}{w:World}{A:Around}{E:Value→Shared→Prop}{s:Shared}{env:Env}{value slice:Expr}{pos:Pos}{T id:String}{Q:Value→Shared→Prop}
  (hl:typeLookup (.type T) "__getitem__"=pure (some (.builtin id))) (hs:NoSl slice)
  (h:wpAny (model prog w) A (eval value env) (fun o s₁=>wpAny (model prog w) A (eval slice env) (fun i s₂=>s₂.TypeIs o T∧wpAny (model prog w) A (getItem o i) Q E s₂) E s₁) E s):
  wpAny (model prog w) A (eval (.Subscript value slice pos) env) Q E s:=by
 refine Subscript_ (wpAny_mono h (fun o s₁ h₁=>wpAny_mono h₁ (fun i s₂ h₂=>?_) fun _ _ x=>x) fun _ _ x=>x)
 obtain⟨hT,h₂⟩:=h₂
 unfold subscriptTail
 refine wpAny_bind ?_
 rw[getitemInPython_of_ne hT.not_modules]
 refine wpAny_bind (wpAny_specialOf hT hl ?_)
 have fin:wpAny (model prog w) A (subscripted slice false o i) (fun r s₃=>wpAny (model prog w) A (letTemporaryGo value o r >>= fun _=>pure r) Q E s₃) E s₂:=by
  rw[hs o i]
  exact wpAny_operating (wpAny_mono h₂ (fun r s₃ h₃=>wpAny_bind (wpAny_letTemporaryGo (wpAny_pure h₃))) fun _ _ x=>x)
 first
  | exact wpAny_pure (wpAny_bind fin)
  | exact wpAny_bind (wpAny_pure (wpAny_bind fin))
  | exact wpAny_bind fin
theorem oO {X:Cx}{pins:List (Addr×Obj)}{σ:St}{H:Hp}{s:Shared}{a:Addr}{y:V}{o:Option V} (I:Inv X pins σ H s) (g:DGet H a y o):s.TypeIs (.ref a) "dict":=by
 rcases g with⟨kvs,k,e,_,_⟩|⟨kvs,k,b,e,_,_,_⟩
 ·obtain⟨_,_,vs,_,dd⟩:=oM I.hok e
  exact dd.typeIs
 ·obtain⟨_,_,xs,_,dd⟩:=oH I.hok e
  exact dd.typeIs
def tDGet (td ty:TE):TE:=fun σ H Q=>td σ H fun x H1=>ty σ H1 fun y H2=>∃ a v,x=.ref a∧DGet H2 a y (some v)∧Q v H2
def tDIn (ty td:TE):TE:=fun σ H Q=>ty σ H fun y H1=>td σ H1 fun x H2=>∃ a o,x=.ref a∧DGet H2 a y o∧Q (.bl o.isSome) H2
def uG (ty td:TE):TE:=fun σ H Q=>ty σ H fun y H1=>td σ H1 fun x H2=>∃ a o,x=.ref a∧DGet H2 a y o∧Q (.bl (!o.isSome)) H2
def sDPut (td ty tv:TE):TS:=fun D σ H=>tv σ H fun v H1=>td σ H1 fun x H2=>ty σ H2 fun y H3=>∃ a H4,x=.ref a∧DPut H3 a y v H4∧D.nx σ H4
section
variable {X : Cx}{o i e value : Expr}{pos pos' tpos : Pos}{td ty tv : TE}
theorem bP (hu:X.A.units+1<cLine)(ho:PE X o td)(hi:PE X i ty)(hs:NoSl i):PE X (.Subscript o i pos) (tDGet td ty):=by
 intro pins s σ H Q I h
 refine uI PySem.F.slot_dict_getitem.lookup hs (thn (ho pins s σ H _ I h) fun u s1 ⟨x,H1,I1,rx,q1⟩=>thn (hi pins s1 σ H1 _ I1 q1) fun iv s2 ⟨y,H2,I2,ry,a,v,ex,g,q2⟩=>?_)
 subst ex
 obtain rfl:u=Value.ref a:=rx
 exact⟨oO I2 g,sG hu I2 g ry fun w' s3 I3 rw'=>⟨v,H2,I3,rw',q2⟩⟩
theorem tI (hu:X.A.units+1<cLine)(hi:PE X i ty)(ho:PE X o td):PC X .In i o (tDIn ty td):=by
 intro pins s σ H Q I h
 refine thn (hi pins s σ H _ I h) fun iv s1 ⟨y,H1,I1,ry,q1⟩=>thn (ho pins s1 σ H1 _ I1 q1) fun u s2 ⟨x,H2,I2,rx,a,ov,ex,g,q2⟩=>?_
 subst ex
 obtain rfl:u=Value.ref a:=rx
 exact d_in hu I2 g ry fun s3 I3=>⟨.bl ov.isSome,H2,I3,rfl,q2⟩
theorem kZ (hu:X.A.units+1<cLine)(hi:PE X i ty)(ho:PE X o td):PC X .NotIn i o (uG ty td):=by
 intro pins s σ H Q I h
 refine thn (hi pins s σ H _ I h) fun iv s1 ⟨y,H1,I1,ry,q1⟩=>thn (ho pins s1 σ H1 _ I1 q1) fun u s2 ⟨x,H2,I2,rx,a,ov,ex,g,q2⟩=>?_
 subst ex
 obtain rfl:u=Value.ref a:=rx
 exact vB hu I2 g ry fun s3 I3=>⟨.bl (!ov.isSome),H2,I3,rfl,q2⟩
theorem cw (hu:X.A.units+1<cLine)(ho:PE X o td)(hi:PE X i ty)(hv:PE X value tv)(hs:swapsWith value (some (.Subscript o i pos')) pos.line X.env=pure false):
  PS X (.Assign [.Subscript o i pos'] value pos) (sDPut td ty tv):=by
 intro pins s σ H D I h
 refine wpAny_Assign_Subscript (thn (hv pins s σ H _ I h) fun r s1 ⟨v,H1,I1,rv,q1⟩=>thn (ho pins s1 σ H1 _ I1 q1) fun u s2 ⟨x,H2,I2,rx,q2⟩=>thn (hi pins s2 σ H2 _ I2 q2) fun iv s3 ⟨y,H3,I3,ry,a,H4,ex,g,q3⟩=>?_) hs
 subst ex
 obtain rfl:u=Value.ref a:=rx
 exact sF hu I3 g ry rv fun s4 I4=>⟨σ,H4,I4,q3⟩
end
theorem oN {P:Program}{w:World}{H:Hp} (h:Heap) (hb:sysModules<h.objs.size):ObjOk P w H (h.push { cls:=.type "dict",data:=.dict #[] }) h.objs.size (.dK []):=
 ⟨Nat.zero_le _,beq_eq_false_iff_ne.mpr (Ne.symm (Nat.ne_of_lt hb)),[],.nil,Heap.DictOf.new h⟩
def tDNewK:TE:=fun _ H Q=>∀ p,H p=none→Q (.ref p) (upd H p (.dK []))
section
variable {X : Cx}{pos : Pos}
theorem dM:PE X (.Dict [] [] pos) tDNewK:=fun pins s σ H Q I h=>
 wpAny_Dict_empty ⟨.ref s.heap.objs.size,_,I.laid (a:=s.heap.objs.size) (o:=.dK []) (t':=s.toks) (fun _ _ q=>Heap.get?_push_of_some _ q) (Nat.le_refl _) (oN s.heap I.big),rfl,h _ (I.hok.fresh (Nat.le_refl _))⟩
end
def py:List (TE×TE)→St→Hp→(List (V×V)→Hp→Prop)→Prop
 | [],_,H,Q=>Q [] H
 | (tk,tv)::r,σ,H,Q=>tk σ H fun x H1=>tv σ H1 fun y H2=>py r σ H2 fun ps H3=>Q ((x,y)::ps) H3
abbrev VV:List (V×V)→List (Value×Value)→Prop:=Paired fun p q=>RelV p.1 q.1∧RelV p.2 q.2
def PPs (X:Cx)(pos:Pos)(keys:List (Option Expr))(values:List Expr)(trs:List (TE×TE)):Prop:=
 ∀ (pins:List (Addr×Obj))(s:Shared)(σ:St)(H:Hp)(Q:List (V×V)→Hp→Prop),Inv X pins σ H s→py trs σ H Q→
  wpAny (model X.prog X.w) X.A (evalPairs (pairTrees keys values X.env pos)) (fun vs s'=>∃ ps H',Inv X pins σ H' s'∧VV ps vs∧Q ps H') X.xe s
theorem uV {X:Cx}{pos:Pos}:PPs X pos [] [] []:=fun pins s σ H Q I h=>pairTrees_nil_walk ⟨[],H,I,.nil,h⟩
theorem tw {X:Cx}{pos:Pos}{k v:Expr}{ks:List (Option Expr)}{vs:List Expr}{tk tv:TE}{trs:List (TE×TE)} (hk:PE X k tk) (hv:PE X v tv) (hr:PPs X pos ks vs trs):
  PPs X pos (some k::ks) (v::vs) ((tk,tv)::trs):=fun pins s σ H Q I h=>
 pairTrees_cons_walk (thn (hk pins s σ H _ I h) fun u s1 ⟨x,H1,I1,rx,q1⟩=>thn (hv pins s1 σ H1 _ I1 q1) fun w2 s2 ⟨y,H2,I2,ry,q2⟩=>
  thn (hr pins s2 σ H2 _ I2 q2) fun ws s3 ⟨ps,H3,I3,rel,q3⟩=>⟨(x,y)::ps,H3,I3,.cons ⟨rx,ry⟩ rel,q3⟩)
def dw (kvs more:List (Key×V)):List (Key×V):=more.foldl (fun acc kv=>cz acc kv.1 kv.2) kvs
theorem KV.merge:∀ {more:List (Key×V)}{rs:List (Key×Value)}{kvs:List (Key×V)}{vs:List (Key×Value)},KV more rs→KV kvs vs→KV (dw kvs more) (merged vs rs):=by
 intro more rs kvs vs r
 unfold KV at r
 induction r generalizing kvs vs with
 | nil=>intro q;exact q
 | @cons p q ps qs h t ih=>
  intro r0
  have e:KV (cz kvs p.1 p.2) (stored vs q.1 q.2):=by
   have:=r0.put p.1 h.2
   rw[← h.1];exact this
  exact ih e
theorem dA:∀ (more kvs:List (Key×V)),(dw kvs more).length≤kvs.length+more.length
 | [],kvs=>by show kvs.length≤kvs.length+0;omega
 | p::r,kvs=>by
  have h1:=dA r (cz kvs p.1 p.2)
  have h2:=fq kvs p.1 p.2
  show (dw (cz kvs p.1 p.2) r).length≤_
  rw[List.length_cons];omega
theorem km {P:Program}{w:World}:∀ {kvs:List (Key×V)}{ws:List (Value×Value)},VV (kvs.map fun kv=>(kV kv.1,kv.2)) ws→∃ rs,Carries (aM P w) ws rs∧KV kvs rs
 | [],_,r=>by rw[List.map_nil]at r;cases r;exact⟨[],True.intro,.nil⟩
 | p::kvs,_,r=>by
  rw[List.map_cons]at r
  cases r with
  | @cons a b as bs h t=>
   obtain⟨rs,c,q⟩:=km (P:=P) (w:=w) t
   obtain⟨b1,b2⟩:=b
   exact⟨(p.1,b2)::rs,⟨jX h.1,rfl,c⟩,.cons ⟨rfl,h.2⟩ q⟩
def tDisp (trs:List (TE×TE)):TE:=fun σ H Q=>∀ p,H p=none→py trs σ (upd H p (.dK [])) fun ps H2=>H2 p=some (.dK [])∧∃ kvs:List (Key×V),ps=kvs.map (fun kv=>(kV kv.1,kv.2))∧kvs.length≤15∧Q (.ref p) (upd H2 p (.dK (dw [] kvs)))
theorem v1 {X:Cx}{pos:Pos}{keys:List (Option Expr)}{values:List Expr}{trs:List (TE×TE)} (h:PPs X pos keys values trs) (hall:keys.all (·.isSome)=true) (hl:keys.length=values.length) (h0:keys≠[])
  (h15:keys.length≤15):PE X (.Dict keys values pos) (tDisp trs):=by
 intro pins s σ H Q I q
 have hn:=I.hok.fresh (Nat.le_refl s.heap.objs.size)
 have I1:=I.laid (a:=s.heap.objs.size) (o:=.dK []) (h':=s.heap.push { cls:=.type "dict",data:=.dict #[] }) (t':=s.toks) (fun _ _ q=>Heap.get?_push_of_some _ q) (Nat.le_refl _) (oN s.heap I.big)
 refine wpAny_Dict_walk (knd:=aM X.prog X.w) hall hl h0 h15 (thn (h pins _ σ _ _ I1 (q _ hn)) fun ws s2 ⟨ps,H2,I2,rel,e,kvs,ep,lk,q2⟩=>?_)
 subst ep
 obtain⟨rs,c,rk⟩:=km (P:=X.prog) (w:=X.w) rel
 obtain⟨z,hd,vs0,r0,dd⟩:=dk_of I2.hok e
 cases r0
 refine⟨rs,c,dd,fun h' dd' hs=>⟨.ref s.heap.objs.size,_,?_,rfl,q2⟩⟩
 have hz:(dw [] kvs).length≤sizeLine:=by
  have h1:=dA kvs []
  rw[List.length_nil]at h1
  rw[sizeLine_eq];omega
 have he:∃ q,h'.get? s.heap.objs.size=some q:=let ⟨q,_,_,hq,_⟩:=dd';⟨q,hq⟩
 exact mL I2 (by rw[e];exact True.intro) hs he (uj hz hd (rk.merge .nil) dd')
section
variable {X : Cx}{pins : List (Addr×Obj)}{σ : St}{H : Hp}{s : Shared}{a : Addr}{y d : V}{u r : Value}{o : Option V}{A : Around}{E : Value → Shared → Prop}
end
section
variable {X : Cx}{o e f : Expr}{apos cpos : Pos}{td ty tx : TE}
end
section
variable {X : Cx}{pins : List (Addr×Obj)}{σ : St}{H : Hp}{s : Shared}{a : Addr}{kvs : List (Key×V)}{A : Around}{E : Value → Shared → Prop}
end
section
variable {X : Cx}{pins : List (Addr×Obj)}{σ : St}{H : Hp}{s : Shared}{a : Addr}{y : V}{u : Value}{A : Around}{E : Value → Shared → Prop}
end
def RawD (h:Heap)(d:Addr)(es:Array DictEntry)(ep:Nat):Prop:=∃ o,h.get? d=some o∧o.ExactDict∧o.data=.dict es ep
theorem RawD.to {h h':Heap}{d:Addr}{es:Array DictEntry}{ep:Nat} (x:RawD h d es ep) (k:∀ o,h.get? d=some o→h'.get? d=some o):RawD h' d es ep:=let ⟨o,a,r⟩:=x;⟨o,k o a,r⟩
section
variable {prog : Program}{w : World}{A : Around}{E : Value → Shared → Prop}{s : Shared}{it d : Addr}{es : Array DictEntry}{i n ep : Nat}
theorem RawD.ty (x:RawD s.heap d es ep):s.TypeIs (.ref d) "dict":=let ⟨o,a,c,_⟩:=x;⟨o,a,c.1⟩
theorem t8 {Q:Value→Shared→Prop}(hd:(d==sysModules)=false)(x:RawD s.heap d es ep)(hQ:Q (.ref s.heap.objs.size) { s with heap:=s.heap.push { cls:=.type "dict_keyiterator",data:=.fields #[.ref d,.int 0 0,.int es.size 0,.int ep 0] } }):
  wpAny (model prog w) A (pyIter (.ref d)) Q E s:=by
 have T:=x.ty
 obtain⟨o,a,_,b⟩:=x
 refine wpAny_pyIter_slot T F.slot_dict_iter (wpAny_call_entry F.slot_dict_iter T F.entry_dict_iter ?_ (F.args_dict_iter_1 _))
 unfold Builtin.«dict.__iter__» Builtin.Dict.dictSlotNone Builtin.Dict.showsAll
 refine wpAny_bind (wpAny_bind (wpAny_notOrdered_dict T (wpAny_pure ?_)))
 refine wpAny_bind (show wpAny _ _ (pure d:Sem Addr) _ _ s from wpAny_pure ?_)
 rw[if_neg (by rw[hd];intro z;cases z)]
 refine wpAny_bind (wpAny_pure (wpAny_bind (wpAny_dictEntries a b (wpAny_bind (wpAny_dictEpoch a b (wpAny_bind (wpAny_newObj_type (wpAny_pure ⟨_,rfl,"dict_keyiterator",_,⟨_,Heap.get?_push_size _ rfl,rfl⟩,F.slot_dict_keyiterator_next.lookup,?_⟩))))))))
 exact hQ
theorem t9 {Q:Option Value→Shared→Prop}(I:s.heap.IsKeyIter it d i es.size ep)(x:RawD s.heap d es ep)(hi:i<es.size)
  (hQ:∀ h',h'.IsKeyIter it d (i+1) es.size ep→Heap.SameBut it s.heap h'→Q (some es[i].key) { s with heap:=h' }):wpAny (model prog w) A (pyNext (.ref it)) Q E s:=by
 have T:=I.typeIs
 obtain⟨u,u1,u2,u3⟩:=id I
 obtain⟨o,a,_,b⟩:=x
 unfold pyNext
 refine wpAny_bind (wpAny_attempt (wpAny_callSpecial?_slot (name:=Str.ofString "__next__") T F.slot_dict_keyiterator_next (wpAny_call_entry F.slot_dict_keyiterator_next T F.entry_dict_keyiterator_next ?_ (F.args_dict_keyiterator_next_1 _))))
 refine wpAny_bind (wpAny_pure (wpAny_bind (wpAny_bind ?_)))
 refine wpAny_bind (wpAny_typeNameOfWhole_keyiter T (wpAny_pure (wpAny_bind (wpAny_fieldsOf u1 u3 ?_))))
 simp only[show Builtin.Dict_items.ownsTuple "dict_keyiterator"=false by decide,Bool.false_eq_true,if_false]
 show wpAny _ _ (if (Value.ref d==Value.none)=true then _ else _) _ _ s;rw[if_neg (fun z=>nomatch z)]
 refine wpAny_bind (wpAny_pure (wpAny_bind (wpAny_dictEntries a b ?_)))
 rw[if_neg (by simp)];refine wpAny_bind (wpAny_pure (wpAny_bind (wpAny_dictEpoch a b ?_)))
 rw[if_neg (by simp)];refine wpAny_pure ?_
 simp only[show ¬ ((i:Int)<0) by omega,if_false,Int.toNat_natCast,Array.getElem?_eq_getElem hi]
 refine wpAny_bind (wpAny_bind (wpAny_typeNameOfWhole_keyiter T (wpAny_pure (wpAny_bind (wpAny_isOneOf_keyiter T ?_)))))
 show wpAny _ _ (setField (.ref it) 1 (rawInt ((i:Int)+1)) >>= _) _ _ s;refine wpAny_bind (wpAny_setField u1 u3 (by simp) ?_)
 have J:(s.heap.update it (Obj.mapFields (·.setIfInBounds 1 (rawInt ((i:Int)+1))))).IsKeyIter it d (i+1) es.size ep:=⟨_,Heap.get?_update_self _ u1 (Obj.isFreed_of_fields (Obj.data_mapFields u3 _)),(Obj.cls_mapFields ..).trans u2,by rw[Obj.data_mapFields u3];simp[rawInt]⟩
 refine wpAny_bind (wpAny_holding (wpAny_bind (wpAny_isOneOf_keyiter (s:={ s with heap:=s.heap.update it (Obj.mapFields (·.setIfInBounds 1 (rawInt ((i:Int)+1)))) }) J.typeIs ?_)))
 show wpAny _ _ (pure es[i].key) _ _ _;exact wpAny_pure (wpAny_pure ⟨_,rfl,wpAny_pure (hQ _ J (Heap.SameBut.update ..))⟩)
theorem uT {Q:Option Value→Shared→Prop}(hh:A.handled=none)(I:s.heap.IsKeyIter it d i es.size ep)(x:RawD s.heap d es ep)(hi:es.size≤i)
  (hQ:∀ h',Heap.ExtBut it s.heap h'→Q none { s with heap:=h' }):wpAny (model prog w) A (pyNext (.ref it)) Q E s:=by
 have T:=I.typeIs
 obtain⟨u,u1,u2,u3⟩:=id I
 obtain⟨o,a,_,b⟩:=x
 unfold pyNext
 refine wpAny_bind (wpAny_attempt (wpAny_callSpecial?_slot (name:=Str.ofString "__next__") T F.slot_dict_keyiterator_next (wpAny_call_entry F.slot_dict_keyiterator_next T F.entry_dict_keyiterator_next ?_ (F.args_dict_keyiterator_next_1 _))))
 refine wpAny_bind (wpAny_pure (wpAny_bind (wpAny_bind ?_)))
 refine wpAny_bind (wpAny_typeNameOfWhole_keyiter T (wpAny_pure (wpAny_bind (wpAny_fieldsOf u1 u3 ?_))))
 simp only[show Builtin.Dict_items.ownsTuple "dict_keyiterator"=false by decide,Bool.false_eq_true,if_false]
 show wpAny _ _ (if (Value.ref d==Value.none)=true then _ else _) _ _ s;rw[if_neg (fun z=>nomatch z)]
 refine wpAny_bind (wpAny_pure (wpAny_bind (wpAny_dictEntries a b ?_)))
 rw[if_neg (by simp)];refine wpAny_bind (wpAny_pure (wpAny_bind (wpAny_dictEpoch a b ?_)))
 rw[if_neg (by simp)];refine wpAny_pure ?_
 simp only[show ¬ ((i:Int)<0) by omega,if_false,Int.toNat_natCast,Array.getElem?_eq_none hi]
 refine wpAny_bind (wpAny_bind (wpAny_typeNameOfWhole_keyiter T (wpAny_pure ?_)))
 show wpAny _ _ (setField (.ref it) 0 .none >>= _) _ _ s;refine wpAny_bind (wpAny_setField u1 u3 (by simp) ?_)
 show wpAny _ _ (newExc (.type "StopIteration") [] >>= _) _ _ _;refine wpAny_bind ?_
 simp only[newExc,newTuple];refine wpAny_bind (wpAny_newObj_type ?_ (by size_fits))
 refine wpAny_bind (m:=firstArgMember _ _) (wpAny_of_eq (a:=Value.none) (by first|rfl|(simp only[firstArgMember];rfl)) (wpAny_newObj_type ?_ (by size_fits)))
 simp only[raiseNew];refine wpAny_bind (wpAny_handled ?_);rw[show A.in1.handled=none from hh]
 refine wpAny_bind (wpAny_pure (wpAny_throw ?_));refine wpAny_bind (wpAny_isInstance (T:="StopIteration") (b:=true) ⟨_,Heap.get?_push_size _ rfl,rfl⟩ isSubtype_stop (wpAny_pure ?_))
 exact hQ _ (((Heap.SameBut.update ..).extBut.push _).push _)
theorem rS (hh:A.handled=none)(I:Addr)(hne:d≠I):Walks prog w A I [I,d] [I] es.size (fun i v=>(es[i]?).map (·.key)=some v) (fun i h=>h.IsKeyIter I d i es.size ep∧RawD h d es ep) where
 sub:=fun b hb=>by simp at hb;simp[hb]
 frame:=fun _ _ _ st hk=>⟨st.1.at fun o e=>hk I (by simp) o e,st.2.to fun o e=>hk d (by simp) o e⟩
 item:=fun i s Q E hi st hQ=>t9 st.1 st.2 hi fun h' J hs=>hQ _ h' s.toks (by rw[Array.getElem?_eq_getElem hi];rfl) ⟨J,st.2.to fun o e=>hs.extBut d o hne e⟩ fun b o hb e=>hs.extBut b o (fun h=>hb (by simp[h])) e
 done:=fun s Q E st hQ=>uT hh st.1 st.2 (Nat.le_refl _) fun h' he=>hQ h' s.toks fun b o hb e=>he b o (fun h=>hb (by simp[h])) e
 self:=fun _ _ _ _ st hQ=>wpAny_pyIter_keyiter st.1 hQ
theorem qI (lo:(d==sysModules)=false):PySem.W.KdlSrc prog w "dict" d d es.size (fun i v=>(es[i]?).map (·.key)=some v) (fun h=>RawD h d es ep) where
 type:=fun _ x=>x.ty
 there:=fun _ ⟨_,a,_⟩=>⟨Heap.lt_size a,Heap.lt_size a⟩
 keep:=fun _ _ x hk=>x.to fun o e=>hk d (.inl rfl) o e
 notList:=by decide
 notTuple:=by decide
 hint:=fun _ _ _ _ x hq=>PySem.W.kdl_hint_dict x.ty hq
 iter:=fun _ s hh x=>⟨_,_,(fun _ _ hq=>t8 lo x hq),rS (es:=es) (ep:=ep) hh _ (let ⟨_,a,_⟩:=x;Nat.ne_of_lt (Heap.lt_size a)),⟨⟨_,Heap.get?_push_size _ rfl,rfl,rfl⟩,x.to fun _ e=>Heap.get?_push_of_some _ e⟩⟩
end
section
variable {X : Cx}
theorem kF {prog:Program}{w:World}{d:Addr} (lo:(d==sysModules)=false):MeetsIn prog w (Builtin.«dict.__len__» ⟨[.ref d],[]⟩) (fun _ R s=>∃ es ep,RawD s.heap d es ep∧R (.ok (.ret (.int es.size s.toks))) { s with toks:=s.toks+1 }):=
 .of_wp fun A R s ⟨es,ep,⟨o,a,_,b⟩,h⟩=>by
  show wpAny _ _ (dictSize d >>= _) _ _ s;unfold dictSize;refine wpAny_bind (wpAny_bind (wpAny_dictEntries a b (wpAny_pure ?_)))
  show wpAny _ _ (Builtin.Dict.pendingCount d >>= _) _ _ s;refine wpAny_bind (wpAny_pendingCount_other lo (wpAny_ret_mkInt ?_))
  rw[Nat.add_zero];exact h
theorem uS {prog:Program}{w:World}{A:Around}{E:Value→Shared→Prop}{s:Shared}{d:Addr}{es:Array DictEntry}{ep:Nat}{Q:Value→Shared→Prop} (lo:(d==sysModules)=false) (x:RawD s.heap d es ep) (fit:(es.size:Int)<2 ^ 63)
  (h:Q (.int es.size (s.toks+1)) { s with toks:=s.toks+1+1 }):wpAny (model prog w) A (call (.builtin "len") [.ref d]) Q E s:=by
 refine Calls.call_function_entry kind_len plain_len entry_len (args_len1 _) ?_
 unfold Builtin.«len»;refine wpAny_bind (m:=oneArg "len" _) (wpAny_pure ?_)
 refine wpAny_bind (m:=callSpecial? (.ref d) (Str.ofString "__len__")) (wpAny_callSpecial?_slot (name:=Str.ofString "__len__") x.ty F.slot_dict_len (call_meetsIn F.slot_dict_len x.ty F.entry_dict_len (F.args_dict_len_1 _) (kF lo) ⟨es,ep,x,?_⟩))
 show wpAny _ _ _ _ _ { s with toks:=s.toks+1 };refine wpAny_bind (wpAny_holding (wpAny_pure (wpAny_bind (wpAny_letGo ?_))))
 show wpAny _ _ (if ((es.size:Nat):Int)<0 then _ else _) _ _ _;rw[if_neg (by omega)]
 show wpAny _ _ (if ((es.size:Nat):Int) ≥ 2 ^ 63 then _ else _) _ _ _;rw[if_neg (by omega)]
 exact wpAny_bind (wpAny_mkInt (wpAny_pure ⟨_,rfl,h⟩))
end
section
variable {X : Cx}{pins : List (Addr×Obj)}{σ : St}{H : Hp}{s : Shared}{d : Addr}{o : Obj}{kvs : List (Key×V)}
def NF (X:Cx)(d:Addr):Prop:=∀ o u,X.H₀ d≠some (.frz o u)
theorem Inv.nf (I:Inv X pins σ H s)(hd:H d=some (.dK kvs)):NF X d:=fun o u z=>by
 have:=I.base.frzs d o u z
 rw[hd]at this;cases this
theorem jt {P:Program}{w:World}{h:Heap}{a:Addr}{o u:HO}{H:Hp}{v:HO} (x:ObjOk P w H h a o) (hd:H d=some u) (h1:∀ b,u≠.own b) (h2:∀ xs,u≠.tup xs):ObjOk P w (upd H d v) h a o:=
 x.stay (fun _ _ _ q=>q) (fun b q=>by rw[aa (fun z=>by rw[z,hd]at q;exact h1 _ (Option.some.inj q))];exact q) fun b xs q=>by rw[aa (fun z=>by rw[z,hd]at q;exact h2 _ (Option.some.inj q))];exact q
theorem Inv.redress {u v:HO}(I:Inv X pins σ H s)(hd:H d=some u)(h1:∀ b,u≠.own b)(h2:∀ xs,u≠.tup xs)(h3:∀ ps,u≠.tbl ps)(h4:∀ o' u',X.H₀ d=some (.frz o' u')→False)(new:ObjOk X.prog X.w (upd H d v) s.heap d v):Inv X pins σ (upd H d v) s where
 ok:=I.ok
 os:=I.os
 bare:=I.bare
 base:=⟨I.base.keep,I.base.slot,fun b ob q n hx=>by rw[aa (fun z=>by have:=I.base.free b ob q n hx;rw[z,hd]at this;cases this)];exact I.base.free b ob q n hx,I.base.there,
  fun b xs q=>by have:=I.base.tups b xs q;rw[aa (fun z=>by rw[z,hd]at this;exact h2 _ (Option.some.inj this))];exact this,
  fun b ob w q=>(aa (fun z:b=d=>h4 ob w (show X.H₀ d=some (.frz ob w) by rw[← z];exact q))).trans (I.base.frzs b ob w q),
  fun b ps q=>by obtain⟨m,e⟩:=I.base.tbls b ps q;exact⟨m,by rw[aa (fun z=>by rw[z,hd]at e;exact h3 _ (Option.some.inj e))];exact e⟩⟩
 loc:=I.loc
 cell:=I.cell
 free:=by rw[aa (fun z=>by have:=I.free;rw[z,hd]at this;cases this)];exact I.free
 freeC:=fun x c e=>by rw[aa (fun z=>by have:=I.freeC x c e;rw[z,hd]at this;cases this)];exact I.freeC x c e
 pin:=fun p hp=>by
  obtain⟨a1,a2,a3⟩:=I.pin p hp
  exact⟨a1,by rw[aa (fun z=>by rw[z,hd]at a2;cases a2)];exact a2,a3⟩
 hok:=fun a ob e=>by
  by_cases ha:a=d
  ·subst ha;rw[a9]at e;cases e;exact new
  ·rw[aa ha]at e;exact jt (I.hok a ob e) hd h1 h2
 len:=I.len
theorem Inv.freeze (I:Inv X pins σ H s)(hd:H d=some (.dK kvs))(ho:s.heap.get? d=some o):Inv X pins σ (upd H d (.frz o (.dK kvs))) s:=
 I.redress hd (fun _ z=>nomatch z) (fun _ z=>nomatch z) (fun _ z=>nomatch z) (fun o u z=>I.nf hd o u z) ⟨ho,jt (I.hok d _ hd) hd (fun _ z=>nomatch z) fun _ z=>nomatch z⟩
theorem Inv.thaw (I:Inv X pins σ H s)(hd:H d=some (.frz o (.dK kvs)))(nf:NF X d):Inv X pins σ (upd H d (.dK kvs)) s:=
 I.redress hd (fun _ z=>nomatch z) (fun _ z=>nomatch z) (fun _ z=>nomatch z) (fun o u z=>nf o u z) (jt (I.hok d _ hd).2 hd (fun _ z=>nomatch z) fun _ z=>nomatch z)
end
def Itk (o:Obj)(d:Addr):It:=
 ⟨fun i H=>∃ kvs kv,H d=some (.frz o (.dK kvs))∧kvs[i]?=some kv,fun i H x H'=>H'=H∧∀ kvs,H d=some (.frz o (.dK kvs))→∃ kv,kvs[i]?=some kv∧x=kV kv.1,fun i H=>∃ kvs,H d=some (.frz o (.dK kvs))∧kvs.length≤i⟩
def Itv (o:Obj)(d:Addr):It:=
 ⟨fun i H=>∃ kvs kv,H d=some (.frz o (.dK kvs))∧kvs[i]?=some kv,fun i H x H'=>H'=H∧∀ kvs,H d=some (.frz o (.dK kvs))→∃ kv,kvs[i]?=some kv∧x=kv.2,fun i H=>∃ kvs,H d=some (.frz o (.dK kvs))∧kvs.length≤i⟩
theorem jm {P:Program}{w:World}{k:Key}{u:Value} (h:(aM P w).is k u=true):RelV (kV k) u:=by
 rcases aX (k:=k) (v:=u) h with⟨i,t,rfl,rfl⟩|⟨x,t,rfl,rfl⟩
 ·exact⟨t,rfl⟩
 ·exact⟨t,rfl⟩
section
variable {X : Cx}{pins : List (Addr×Obj)}{σ : St}{H : Hp}{s : Shared}{d : Addr}{o : Obj}{es : Array DictEntry}{ep : Nat}{kvs : List (Key×V)}
theorem Inv.frd (I:Inv X pins σ H s)(hd:H d=some (.frz o (.dK kvs)))(ed:o.data=.dict es ep):∃ vs,KV kvs vs∧s.heap.DictAt (aM X.prog X.w) d vs ep∧vs.length=es.size:=by
 obtain⟨ho,z,lo,vs,r,ob,es',ep',e1,c1,c2,c3,c4,c5⟩:=I.hok d _ hd
 rw[ho]at e1;cases e1
 rw[ed]at c2;cases c2
 refine⟨vs,r,⟨o,es,ho,c1,ed,c3,c4,c5⟩,?_⟩
 have:=c4.length
 rw[← this];simp
theorem rK {tg:Expr}{P:Program}{w:World}{K:PySem.W.Frag} (it d:Addr) (o:Obj) {es:Array DictEntry}{ep:Nat} (ed:o.data=.dict es ep):p9 P w K tg (Itk o d) [it] it (fun i h=>h.IsKeyIter it d i es.size ep) where
 mem:=by simp
 obj:=fun i h st b hb=>by
  have e:b=it:=by simpa using hb
  subst e
  obtain⟨o,e,c,d⟩:=st
  exact⟨o,e,fun v z=>by rw[d]at z;cases z⟩
 keep:=fun i h h' st k=>st.at fun o e=>k it (by simp) o e
 item:=by
  intro X hP hw hK hc i pins s σ H E I hf st hg
  subst hP hw hK
  obtain⟨kvs,kv,hd,hx⟩:=hg
  obtain⟨vs,r,da,hl⟩:=I.frd hd ed
  obtain⟨f0,f1,f2,f3,f4,f5⟩:=hf it (by simp)
  obtain⟨q,hq,hr⟩:=Paired.at r hx
  rw[← hl]at st
  refine wpAny_pyNext_dict_item st da (k:=q.1) (v:=q.2) hq fun key h' hkey st' sb=>?_
  have I1:Inv X pins σ H { s with heap:=h' }:=I.turned (t':=s.toks) (fun b o hb e=>(sb.2 b hb).trans e) f0 f1 f3 f4 f5
  obtain⟨o',e',c',d'⟩:=id st'
  rw[hl]at st'
  refine⟨key,rfl,oz (s:={ s with heap:=h' }) e' c' d' (by decide) ⟨kV kv.1,H,I1,?_,⟨rfl,fun kvs' hd'=>?_⟩,st',fun b hb=>(hf b hb).1⟩⟩
  ·rw[hr.1];exact jm hkey
  ·rw[hd]at hd';cases hd';exact⟨kv,hx,rfl⟩
 done:=by
  intro X hP hw hK hc i pins s σ H E I hf st hg
  subst hP hw hK
  obtain⟨kvs,hd,hx⟩:=hg
  obtain⟨vs,r,da,hl⟩:=I.frd hd ed
  obtain⟨f0,f1,f2,f3,f4,f5⟩:=hf it (by simp)
  rw[← hl]at st
  have:=KV.length r
  exact wpAny_pyNext_dict_end (I.ok.hd hc) st da (List.getElem?_eq_none (by omega)) fun h' eb=>⟨rfl,I.turned (t':=s.toks) (fun b o hb e=>eb b o hb e) f0 f1 f3 f4 f5⟩
 self:=fun _ _ _ _ _ st h=>wpAny_pyIter_keyiter st h
theorem rH {tg:Expr}{P:Program}{w:World}{K:PySem.W.Frag} (it d:Addr) (o:Obj) {es:Array DictEntry}{ep:Nat} (ed:o.data=.dict es ep):p9 P w K tg (Itv o d) [it] it (fun i h=>h.IsValIter it d i es.size ep) where
 mem:=by simp
 obj:=fun i h st b hb=>by
  have e:b=it:=by simpa using hb
  subst e
  obtain⟨o,e,c,d⟩:=st
  exact⟨o,e,fun v z=>by rw[d]at z;cases z⟩
 keep:=fun i h h' st k=>st.at fun o e=>k it (by simp) o e
 item:=by
  intro X hP hw hK hc i pins s σ H E I hf st hg
  subst hP hw hK
  obtain⟨kvs,kv,hd,hx⟩:=hg
  obtain⟨vs,r,da,hl⟩:=I.frd hd ed
  obtain⟨f0,f1,f2,f3,f4,f5⟩:=hf it (by simp)
  obtain⟨q,hq,hr⟩:=Paired.at r hx
  rw[← hl]at st
  refine wpAny_pyNext_values_item st da (k:=q.1) (v:=q.2) hq fun h' st' sb=>?_
  have I1:Inv X pins σ H { s with heap:=h' }:=I.turned (t':=s.toks) (fun b o hb e=>(sb.2 b hb).trans e) f0 f1 f3 f4 f5
  obtain⟨o',e',c',d'⟩:=id st'
  rw[hl]at st'
  refine⟨q.2,rfl,oz (s:={ s with heap:=h' }) e' c' d' (by decide) ⟨kv.2,H,I1,hr.2,⟨rfl,fun kvs' hd'=>?_⟩,st',fun b hb=>(hf b hb).1⟩⟩
  rw[hd]at hd';cases hd';exact⟨kv,hx,rfl⟩
 done:=by
  intro X hP hw hK hc i pins s σ H E I hf st hg
  subst hP hw hK
  obtain⟨kvs,hd,hx⟩:=hg
  obtain⟨vs,r,da,hl⟩:=I.frd hd ed
  obtain⟨f0,f1,f2,f3,f4,f5⟩:=hf it (by simp)
  rw[← hl]at st
  have:=KV.length r
  exact wpAny_pyNext_values_end (I.ok.hd hc) st da (List.getElem?_eq_none (by omega)) fun h' eb=>⟨rfl,I.turned (t':=s.toks) (fun b o hb e=>eb b o hb e) f0 f1 f3 f4 f5⟩
 self:=fun _ _ _ _ _ st h=>wpAny_pyIter_valiter st h
end
section
variable {X : Cx}{tg : Expr}
def iDX (X:Cx)(J:Obj→Addr→It)(tl:TE):TI:=fun σ H R=>∃ Q:VK,tl σ H Q∧∀ x H1,Q x H1→∃ d kvs,x=.ref d∧H1 d=some (.dK kvs)∧∀ o,NF X d→R (J o d) (upd H1 d (.frz o (.dK kvs)))
theorem qM {l:Expr}{tl:TE} (hl:PE X l tl):PI X tg l (iDX X Itk tl):=by
 intro pins s σ H R I h
 obtain⟨Q,hq,h⟩:=h
 refine thn (hl pins s σ H _ I hq) fun v s1 ⟨x,H1,I1,r1,q1⟩=>?_
 obtain⟨d,kvs,e,hd,q⟩:=h x H1 q1
 subst e
 cases r1
 obtain⟨z,lo,vs,r,ob,es,ep,ho,c1,c2,c3,c4,c5⟩:=(show ObjOk X.prog X.w H1 s1.heap d (.dK kvs) from I1.hok d _ hd)
 have hsz:vs.length=es.size:=by rw[← c4.length];simp
 refine wpAny_pyIter_dict (knd:=aM X.prog X.w) lo (kvs:=vs) (ep:=ep) ⟨ob,es,ho,c1,c2,c3,c4,c5⟩ ?_
 rw[hsz]
 have I2:=I1.freeze hd ho
 refine⟨s1.heap.objs.size,[s1.heap.objs.size],_,_,_,rfl,I2.kept (t':=s1.toks) fun b o e=>Heap.get?_push_of_some _ e,rK _ d ob c2,⟨_,Heap.get?_push_size _ rfl,rfl,rfl⟩,fun b hb=>?_,q ob (I1.nf hd)⟩
 have e:b=s1.heap.objs.size:=by simpa using hb
 subst e
 exact I2.fpOk (Nat.le_refl _) (I2.hok.fresh (Nat.le_refl _))
theorem mq {l:Expr}{tl:TE}{apos cpos:Pos} (hl:PE X l tl)
  (hbase:attributeBase l "values" X.env (eval l X.env)=eval l X.env:=by rfl) (hline:(apos.endLine==cpos.line)=true:=by rfl):PI X tg (.Call (.Attribute l "values" apos) [] [] cpos) (iDX X Itv tl):=by
 intro pins s σ H R I h
 obtain⟨Q,hq,h⟩:=h
 refine wpAny_Call_method0_late hbase hline (thn (hl pins s σ H _ I hq) fun v s1 ⟨x,H1,I1,r1,q1⟩=>?_)
 obtain⟨d,kvs,e,hd,q⟩:=h x H1 q1
 subst e
 cases r1
 obtain⟨z,lo,vs,r,ob,es,ep,ho,c1,c2,c3,c4,c5⟩:=(show ObjOk X.prog X.w H1 s1.heap d (.dK kvs) from I1.hok d _ hd)
 have hsz:vs.length=es.size:=by rw[← c4.length];simp
 have da:s1.heap.DictAt (aM X.prog X.w) d vs ep:=⟨ob,es,ho,c1,c2,c3,c4,c5⟩
 refine⟨"dict","dict.values",F.plainAttrs_dict,F.slot_dict_values,F.type_dict_values,da.dictOf.typeIs,fun a e2=>?_,Calls.callWith_builtin rfl (PySem.evalArgs_none ?_)⟩
 ·cases e2
  exact⟨ob,ho,c1.2.1⟩
 refine call_meetsIn F.slot_dict_values da.dictOf.typeIs F.entry_dict_values (F.args_dict_values_1 _) (meets_dict_values (aM X.prog X.w) d lo) ⟨⟨vs,da.dictOf⟩,?_⟩
 have I2:=(I1.freeze hd ho).kept (t':=s1.toks) (h':=s1.heap.push { cls:=.type "dict_values",data:=.fields #[.ref d] }) fun b o e=>Heap.get?_push_of_some _ e
 show wpAny _ _ _ _ _ { s1 with heap:=s1.heap.push { cls:=.type "dict_values",data:=.fields #[.ref d] } }
 refine wpAny_pyIter_values (s:={ s1 with heap:=s1.heap.push { cls:=.type "dict_values",data:=.fields #[.ref d] } }) ⟨_,Heap.get?_push_size _ rfl,rfl,rfl⟩ (da.push _) ?_
 rw[hsz]
 refine⟨_,[(s1.heap.push { cls:=.type "dict_values",data:=.fields #[.ref d] }).objs.size],_,_,_,rfl,I2.kept (t':=s1.toks) fun b o e=>Heap.get?_push_of_some _ e,rH _ d ob c2,⟨_,Heap.get?_push_size _ rfl,rfl,rfl⟩,fun b hb=>?_,q ob (I1.nf hd)⟩
 have e:b=(s1.heap.push { cls:=.type "dict_values",data:=.fields #[.ref d] }).objs.size:=by simpa using hb
 subst e
 exact I2.fpOk (Nat.le_refl _) (I2.hok.fresh (Nat.le_refl _))
def oE (N:Addr→Prop)(D:fX):fX where
 nx:=fun σ H=>∃ d o kvs,N d∧H d=some (.frz o (.dK kvs))∧D.nx σ (upd H d (.dK kvs))
 rt:=fun v H=>∃ d o kvs,N d∧H d=some (.frz o (.dK kvs))∧D.rt v (upd H d (.dK kvs))
 bk:=fun σ H=>∃ d o kvs,N d∧H d=some (.frz o (.dK kvs))∧D.bk σ (upd H d (.dK kvs))
 ct:=fun σ H=>∃ d o kvs,N d∧H d=some (.frz o (.dK kvs))∧D.ct σ (upd H d (.dK kvs))
def tForD (J:Obj→Addr→It)(tl:TE)(g:TG)(tb:TS):TS:=fun D σ H=>tl σ H fun x H1=>∃ d kvs,x=.ref d∧H1 d=some (.dK kvs)∧∀ (o:Obj)(N:Addr→Prop),N d→
 ∃ W:Nat→Nat→St→Hp→Prop,(∃ m,W 0 m σ (upd H1 d (.frz o (.dK kvs))))∧∀ i m σ H,W i m σ H→
  ((J o d).stop i H∧(oE N D).nx σ H)∨((J o d).go i H∧∃ M:St→Hp→Prop,(∀ σ' H',M σ' H'→∃ m',m'<m∧W (i+1) m' σ' H')∧∀ x H',(J o d).yld i H x H'→g x σ H' fun σ2 H2=>tb { oE N D with nx:=M,ct:=M,bk:=(oE N D).nx } σ2 H2)
theorem SP.thaw {pins:List (Addr×Obj)}{D:fX}{f:Flow}{s:Shared} (h:SP X pins (oE (NF X) D) f s):SP X pins D f s:=by
 cases f with
 | next=>obtain⟨σ,H,I,d,o,kvs,nf,e,q⟩:=h;exact⟨σ,_,I.thaw e nf,q⟩
 | brk=>obtain⟨σ,H,I,d,o,kvs,nf,e,q⟩:=h;exact⟨σ,_,I.thaw e nf,q⟩
 | cont=>obtain⟨σ,H,I,d,o,kvs,nf,e,q⟩:=h;exact⟨σ,_,I.thaw e nf,q⟩
 | ret v=>obtain⟨x,σ,H,I,r,d,o,kvs,nf,e,q⟩:=h;exact⟨x,σ,_,I.thaw e nf,r,q⟩
theorem mn {J:Obj→Addr→It}{iter:Expr}{body:List Stmt}{tl:TE}{g:TG}{tb:TS}{pos:Pos} (hp:PassesOwn (model X.prog X.w) X.A X.env X.xe) (hc:X.calm=true) (hi:PI X tg iter (iDX X J tl)) (hg:PG X tg g) (hb:PSs X body tb)
  (hs:∀ x,foldedSetIterable iter X.env x=pure x:=by intro _;rfl):PS X (.For tg iter body [] pos) (tForD J tl g tb):=by
 intro pins s σ H D I h
 exact thn (bt hp hc hi hg hb hs pins s σ H (oE (NF X) D) I ⟨_,h,fun x H1 ⟨d,kvs,e,hd,r⟩=>⟨d,kvs,e,hd,fun o nf=>r o _ nf⟩⟩) fun f s' q=>SP.thaw q
variable {elt iter : Expr}{ifs : List Expr}{scope : Scope}{pos : Pos}{nT : Nat}{js : List Nat}{N' : List Str}{g : TG}{tt : TT}{te : TE}
def tCompD (J:Obj→Addr→It)(tl:TE)(nT:Nat)(js:List Nat)(g:TG)(tt:TT)(te:TE):TE:=fun σ H Q=>tl σ H fun x H1=>∃ d kvs,x=.ref d∧H1 d=some (.dK kvs)∧∀ (o:Obj)(N:Addr→Prop),N d→
 bw nT js g tt te σ (fun l H'=>∃ d o kvs,N d∧H' d=some (.frz o (.dK kvs))∧Q (.ref l) (upd H' d (.dK kvs))) (J o d) (upd H1 d (.frz o (.dK kvs)))
theorem jH {J:Obj→Addr→It}{tl:TE} (hc:X.calm=true) (S:dW X scope nT js N') (hi:PI X tg iter (iDX X J tl))
  (hg:∀ cells C s H fp,PG (b5 X scope N' cells C s H fp) tg g) (ht:∀ cells C s H fp,sM (b5 X scope N' cells C s H fp) ifs tt) (he:∀ cells C s H fp,PE (b5 X scope N' cells C s H fp) elt te)
  (hs:∀ x,foldedSetIterable iter X.env x=pure x:=by intro _;rfl):PE X (.ListComp elt [⟨tg,iter,ifs,0⟩] scope pos) (tCompD J tl nT js g tt te):=by
 intro pins s σ H Q I h
 refine thn (aO hc S hi hg ht he hs pins s σ H (fun v H'=>∃ d o kvs,NF X d∧H' d=some (.frz o (.dK kvs))∧Q v (upd H' d (.dK kvs))) I ⟨_,h,fun x H1 ⟨d,kvs,e,hd,r⟩=>⟨d,kvs,e,hd,fun o nf=>r o _ nf⟩⟩) fun u s' ⟨v,H',I',r',d,o,kvs,nf,e,q⟩=>⟨v,_,I'.thaw e nf,r',q⟩
end
theorem uB {xs:List V}:∀ {us:List Value},xs.length=us.length→(∀ (j:Nat)(x:V)(u:Value),xs[j]?=some x→us[j]?=some u→RelV x u)→Vals xs us:=by
 induction xs with
 | nil=>intro us hl h;cases us with
  | nil=>exact .nil
  | cons u us=>cases hl
 | cons x xs ih=>intro us hl h;cases us with
  | nil=>cases hl
  | cons u us=>exact .cons (h 0 x u rfl rfl) (ih (by simpa using hl) fun j y v hy hv=>h (j+1) y v (by simpa using hy) (by simpa using hv))
def sgn (x:Str)(i:Nat):Str:=⟨#[x.cps.getD i 0]⟩
def Its (x:Str):It:=⟨fun i _=>i<x.cps.size,fun i H v H'=>H'=H∧v=.str (sgn x i),fun i _=>i=x.cps.size⟩
theorem mW {tg:Expr}{P:Program}{w:World}{K:PySem.W.Frag} (it:Addr) (x:Str) (t:Tok) (ty:String) (hty:["enumerate","zip","dict_itemiterator","dict_reverseitemiterator","odict_iterator","itertools.zip_longest","itertools.pairwise"].contains ty=false)
  (W:∀ A:Around,A.handled=none→Walks P w A it [it] [it] x.cps.size (SignAt x) (fun i h=>h.IsStrIter it ty x t i))
  (hself:∀ (A:Around)(i:Nat)(s:Shared)(Q:Value→Shared→Prop)(E:Value→Shared→Prop),s.heap.IsStrIter it ty x t i→Q (.ref it) s→wpAny (model P w) A (pyIter (.ref it)) Q E s):p9 P w K tg (Its x) [it] it (fun i h=>h.IsStrIter it ty x t i) where
 mem:=by simp
 obj:=fun i h st b hb=>by
  have e:b=it:=by simpa using hb
  subst e
  obtain⟨o,e,c,d⟩:=st
  exact⟨o,e,fun v z=>by rw[d]at z;cases z⟩
 keep:=fun i h h' st k=>by
  obtain⟨o,e,r⟩:=st
  exact⟨o,k it (by simp) o e,r⟩
 item:=by
  intro X hP hw hK hc i pins s σ H E I hf st hg
  subst hP hw hK
  obtain⟨f0,f1,f2,f3,f4,f5⟩:=hf it (by simp)
  refine (W X.A (I.ok.hd hc)).item i s _ _ hg st fun v h' tk hv st' kk=>?_
  obtain⟨c,u,hcx,rfl⟩:=hv
  have I1:Inv X pins σ H { s with heap:=h',toks:=tk }:=I.turned (fun b o hb e=>kk b o (by simpa using hb) e) f0 f1 f3 f4 f5
  obtain⟨o',e',c',d'⟩:=id st'
  refine⟨_,rfl,oz (s:={ s with heap:=h',toks:=tk }) e' c' d' hty ⟨.str (sgn x i),H,I1,⟨u,?_⟩,⟨rfl,rfl⟩,st',fun b hb=>(hf b hb).1⟩⟩
  unfold sgn
  rw[Array.getD_eq_getD_getElem?,hcx]
  rfl
 done:=by
  intro X hP hw hK hc i pins s σ H E I hf st hg
  subst hP hw hK
  obtain⟨f0,f1,f2,f3,f4,f5⟩:=hf it (by simp)
  have hi:i=x.cps.size:=hg
  subst hi
  exact (W X.A (I.ok.hd hc)).done s _ _ st fun h' tk kk=>⟨rfl,I.turned (t':=tk) (fun b o hb e=>kk b o (by simpa using hb) e) f0 f1 f3 f4 f5⟩
 self:=fun A i s Q E st h=>hself A i s Q E st h
section
variable {X : Cx}{tg : Expr}
def iStr (tl:TE):TI:=fun σ H R=>tl σ H fun v H1=>∃ x,v=.str x∧R (Its x) H1
theorem tD {l:Expr}{tl:TE} (hl:PE X l tl):PI X tg l (iStr tl):=by
 intro pins s σ H R I h
 refine thn (hl pins s σ H _ I h) fun v s1 ⟨z,H1,I1,r1,q1⟩=>?_
 obtain⟨x,rfl,q⟩:=q1
 obtain⟨t,rfl⟩:=r1
 have fp:∀ (b:Addr),b∈[s1.heap.objs.size]→jb X pins H1 b:=fun b hb=>by
  have e:b=s1.heap.objs.size:=by simpa using hb
  subst e
  exact I1.fpOk (Nat.le_refl _) (I1.hok.fresh (Nat.le_refl _))
 cases ha:x.cps.all (·<128)
 ·refine wpAny_pyIter_wide ha ?_
  exact⟨s1.heap.objs.size,[s1.heap.objs.size],_,_,H1,rfl,I1.kept (t':=s1.toks) fun b o e=>Heap.get?_push_of_some _ e,mW _ x t "str_iterator" (by decide) (fun A' hA=>Walks.strWide hA _ x t) (fun A i s Q E st h=>wpAny_pyIter_striter_wide st h),⟨_,Heap.get?_push_size _ rfl,rfl,rfl⟩,fp,q⟩
 ·refine wpAny_pyIter_ascii ha ?_
  exact⟨s1.heap.objs.size,[s1.heap.objs.size],_,_,H1,rfl,I1.kept (t':=s1.toks) fun b o e=>Heap.get?_push_of_some _ e,mW _ x t "str_ascii_iterator" (by decide) (fun A' hA=>Walks.strAscii hA _ x t) (fun A i s Q E st h=>wpAny_pyIter_striter_ascii st h),⟨_,Heap.get?_push_size _ rfl,rfl,rfl⟩,fp,q⟩
theorem sK {bs:List Bool}:(List.range bs.length).all (fun i=>bs.getD i true)=bs.all id:=by
 rw[Bool.eq_iff_iff]
 simp only[List.all_eq_true,List.mem_range]
 constructor
 ·intro h b hb
  obtain⟨i,hi,rfl⟩:=List.getElem_of_mem hb
  have:=h i hi
  rwa [List.getD_eq_getElem?_getD,List.getElem?_eq_getElem hi]at this
 ·intro h i hi
  rw[List.getD_eq_getElem?_getD,List.getElem?_eq_getElem hi]
  exact h _ (List.getElem_mem hi)
theorem lM (K:PySem.W.Frag)(hc:X.calm=true)(hK:X.K=K:=by rfl):CallR X (.builtin "all") (fun xs H Q=>∃ (p:Addr)(bs:List Bool),xs=[.ref p]∧SqL K H p (bs.map V.bl)∧Q (.bl (bs.all id)) H):=by
 subst hK
 intro pins s σ H xs us Q I r h
 obtain⟨p,bs,rfl,hq,q⟩:=h
 obtain⟨u,rfl,r1⟩:=dH r
 cases r1
 obtain⟨its,rv,pl,hz⟩:=I.list hq
 have hlen:its.length=bs.length:=by have:=rv.length;rw[List.length_map]at this;omega
 have hpn:p≠s.heap.objs.size:=by
  obtain⟨_,_,e,_⟩:=pl
  exact Nat.ne_of_lt (Heap.lt_size e)
 refine call_all_walk ?_
 refine wpAny_pyIter_list pl.isList ?_
 refine⟨s.heap.objs.size,[s.heap.objs.size,p],[s.heap.objs.size],its.toArray.size,_,_,fun i=>bs.getD i true,rfl,Walks.list (A:=X.A.in1) (I.ok.hd hc) _ p hpn its.toArray,⟨⟨_,Heap.get?_push_size _ rfl,rfl,rfl⟩,pl.isList.push _⟩,fun i v s' Q' E' hv hQ=>?_,fun h' tk hk=>?_⟩
 ·have hv:its[i]?=some v:=by simpa using hv
  have hi:i<bs.length:=by rw[← hlen];exact (List.getElem?_eq_some_iff.mp hv).1
  have hb:(bs.map V.bl)[i]?=some (V.bl bs[i]):=by rw[List.getElem?_map,List.getElem?_eq_getElem hi];rfl
  obtain⟨w1,e1,r1⟩:=rv.get hb
  rw[hv]at e1;cases e1
  obtain rfl:v=Value.bool bs[i]:=r1
  dsimp only at hQ
  rw[List.getD_eq_getElem?_getD,List.getElem?_eq_getElem hi]at hQ
  exact wpAny_truthy_bool hQ
 ·have e:its.toArray.size=bs.length:=by simp[hlen]
  rw[e,sK]
  refine⟨.bl (bs.all id),H,I.kept (t':=tk) fun b o e=>hk b o (fun z=>?_) (Heap.get?_push_of_some _ e),rfl,q⟩
  have z':b=s.heap.objs.size:=by simpa using z
  exact absurd (Heap.lt_size e) (by rw[z'];exact Nat.lt_irrefl _)
theorem i4 (hc:X.calm=true):CallR X (.type "list") (fun xs H Q=>∃ d kvs,xs=[.ref d]∧H d=some (.dK kvs)∧NewQ H (.lst (kvs.map fun kv=>kV kv.1)) Q):=by
 intro pins s σ H xs us Q I r h
 obtain⟨d,kvs,rfl,hd,q⟩:=h
 obtain⟨u,rfl,rx⟩:=dH r
 cases rx
 obtain⟨z,lo,vs,rel,o,es,ep,ho,hx,hdat,hk,hp,hnd⟩:=(show ObjOk X.prog X.w H s.heap d (.dK kvs) from I.hok d _ hd)
 have hl:es.size=vs.length:=by rw[← hp.length];simp
 have hkl:=KV.length rel
 refine PySem.W.kdl_call (qI lo) (I.ok.hd hc) ⟨o,ho,hx,hdat⟩ (by rw[hl,← hkl];exact z) fun h' tk acc c keep hnew hacc=>?_
 have hval:Vals (kvs.map fun kv=>kV kv.1) acc.toList:=by
  refine uB (by have h1:=hacc.1;rw[← Array.length_toList]at h1;rw[List.length_map,h1,hl,hkl]) fun j x u' hx hu=>?_
  rw[List.getElem?_map]at hx
  obtain⟨kv,ekv,rfl⟩:=Option.map_eq_some_iff.mp hx
  obtain⟨q',hq',hr'⟩:=Paired.at rel ekv
  have hj:j<es.size:=by rw[hl];exact (List.getElem?_eq_some_iff.mp hq').1
  have h1:(es[j]?).map (·.key)=some u':=hacc.2 j u' (by rw[← Array.getElem?_toList];exact hu)
  rw[Array.getElem?_eq_getElem hj]at h1
  have h2:=(Pairs.get? hp (e:=es[j]) (k:=q'.1) (v:=q'.2) (by rw[Array.getElem?_toList,Array.getElem?_eq_getElem hj]) hq').1
  have:es[j].key=u':=Option.some.inj h1
  rw[← this,hr'.1]
  exact jm h2
 refine⟨.ref s.heap.objs.size,_,I.laid (t':=tk) keep (Nat.le_refl _) (show ObjOk X.prog X.w _ h' _ (.lst (kvs.map fun kv=>kV kv.1)) from ⟨by rw[List.length_map];exact z,acc.toList,c,hval,?_⟩),rfl,q.at (I.hok.fresh (Nat.le_refl _))⟩
 simpa using hnew
theorem fA:CallR X (.builtin "len") (fun xs H Q=>∃ d kvs,xs=[.ref d]∧H d=some (.dK kvs)∧Q (.int kvs.length) H):=by
 intro pins s σ H xs us Q I r h
 obtain⟨d,kvs,rfl,hd,q⟩:=h
 obtain⟨u,rfl,rx⟩:=dH r
 cases rx
 obtain⟨z,lo,vs,rel,o,es,ep,ho,hx,hdat,hk,hp,hnd⟩:=(show ObjOk X.prog X.w H s.heap d (.dK kvs) from I.hok d _ hd)
 have hl:es.size=kvs.length:=by rw[KV.length rel,← hp.length];simp
 refine uS lo ⟨o,ho,hx,hdat⟩ (by rw[hl];have:kvs.length≤2 ^ 24:=z;omega) ?_
 rw[hl]
 exact⟨.int kvs.length,H,I.tok _,⟨_,rfl⟩,q⟩
variable {k : Nat}{C : Addr}{ps : List Str}{sp : Sp}{x m : Str}{p pos apos : Pos}{o : Expr}{ta : TE}
theorem bK {pl:Sem Bool}(he:PE X o ta)(D:Dm X.prog X.w X.K X.mg X.base k C m ps sp)(hr:Room k X.A)
  (ht:eval (.Call (.Attribute o m apos) [] [] pos) X.env=(do
   let ov ← eval o X.env
   standAt apos.atName
   let (f,first) ← holding [ov] (getMethod ov m pl)
   callWith pos f first (backTo pos (starEach [] X.env)) (backToKw pos (keywordEach [] X.env))):=by rfl):
  PE X (.Call (.Attribute o m apos) [] [] pos) (mX C m sp [] E0 ta kx):=by
 obtain⟨f,fd,cl,hm,b,F⟩:=D
 exact tF he cl hm F hr b .nil l7 ht
theorem kX (D:Dk X.prog X.w X.K X.mg X.base k x C ps sp)(hr:Room (k+1) X.A)(hg:Gl X x)(hdb:(x==("__debug__":Str))=false:=by decide):
  PE X (.Call (.Name x p) [] [] pos) (qB C sp [] E0 kx):=by
 obtain⟨f,fd,hm,M,b,F⟩:=D
 exact tG M F hr hg hm b .nil l7 hdb
def tMethC (Cs:Addr→Prop)(m:Str)(sp:Addr→Sp)(ta:TE):TE:=fun σ H Q=>ta σ H fun x H1=>∃ a C dx fs,x=.ref a∧Cs C∧H1 a=some (.ins C dx fs)∧fs.lookup m=none∧sp C [x] H1 Q E0
theorem fK {pl:Sem Bool}{Cs:Addr→Prop}{sp:Addr→Sp} (he:PE X o ta) (D:∀ C,Cs C→Dm X.prog X.w X.K X.mg X.base k C m ps (sp C)) (hr:Room k X.A)
  (ht:eval (.Call (.Attribute o m apos) [] [] pos) X.env=(do
   let ov ← eval o X.env
   standAt apos.atName
   let (f,first) ← holding [ov] (getMethod ov m pl)
   callWith pos f first (backTo pos (starEach [] X.env)) (backToKw pos (keywordEach [] X.env))):=by rfl):
  PE X (.Call (.Attribute o m apos) [] [] pos) (tMethC Cs m sp ta):=by
 intro pins s σ H Q I h
 refine PySem.W.methodCall_KW (pl:=pl) (thn (he pins s σ H _ I h) fun u s1 ⟨x,H1,I1,rx,a,C,dx,fs,ex,hC,ea,l,q⟩=>?_) ht
 subst ex
 obtain rfl:u=Value.ref a:=rx
 obtain⟨f,fd,cl,hm,b,F⟩:=D C hC
 refine dc I1 ea cl hm l ?_
 exact PySem.W.callWith_K0 (first:=[.ref a]) I1.kIn hm.kp (ma (us:=[.ref a]) (vs:=[.ref a]) (dvs:=[]) F hr b .nil l7 I1 (.cons rfl .nil) q)
end
def Itp (pr:Key×V→V)(o:Obj)(d:Addr):It:=
 ⟨fun i H=>∃ kvs kv,H d=some (.frz o (.dK kvs))∧kvs[i]?=some kv,fun i H x H'=>H'=H∧∀ kvs,H d=some (.frz o (.dK kvs))→∃ kv,kvs[i]?=some kv∧x=pr kv,fun i H=>∃ kvs,H d=some (.frz o (.dK kvs))∧kvs.length≤i⟩
theorem u4:Itk=Itp fun kv=>kV kv.1:=rfl
theorem qh:Itv=Itp (·.2):=rfl
theorem dJ {H H':Hp}{d:Addr}{o:Obj}{kvs:List (Key×V)} (hd:H d=some (.dK kvs)) (e:Same (upd H d (.frz o (.dK kvs))) H'):Same H (upd H' d (.dK kvs)):=fun b u hb=>by
 by_cases z:b=d
 ·subst z;rw[hd]at hb;cases hb;exact a9
 ·rw[aa z]
  exact e b u (by rw[aa z];exact hb)
theorem kP {H:Hp}{d:Addr}{o:HO}{kvs:List (Key×V)} (hd:H d=some (.dK kvs)):upd (upd H d o) d (.dK kvs)=H:=by
 funext b
 unfold upd
 by_cases z:b=d
 ·subst z;rw[if_pos rfl,hd]
 ·rw[if_neg z,if_neg z]
section
variable {pr : Key×V → V}{o : Obj}{d : Addr}{kvs : List (Key×V)}
theorem oB {g:TG}{tb:TS}{D:fX}{σ:St}{H:Hp} (Pv:Nat→St→Hp→Prop) (h0:Pv 0 σ H) (hl:∀ i σ H,i≤kvs.length→Pv i σ H→H d=some (.frz o (.dK kvs)))
  (hs:∀ (i:Nat)(kv:Key×V) σ H,kvs[i]?=some kv→Pv i σ H→g (pr kv) σ H fun σ2 H2=>tb { D with nx:=Pv (i+1),ct:=Pv (i+1),bk:=D.nx } σ2 H2) (hd:∀ σ H,Pv kvs.length σ H→D.nx σ H):
  ∃ W:Nat→Nat→St→Hp→Prop,(∃ m,W 0 m σ H)∧∀ i m σ H,W i m σ H→
   ((Itp pr o d).stop i H∧D.nx σ H)∨((Itp pr o d).go i H∧∃ N:St→Hp→Prop,(∀ σ' H',N σ' H'→∃ m',m'<m∧W (i+1) m' σ' H')∧∀ x H',(Itp pr o d).yld i H x H'→g x σ H' fun σ2 H2=>tb { D with nx:=N,ct:=N,bk:=D.nx } σ2 H2):=by
 refine⟨fun i m σ H=>m=kvs.length - i∧i≤kvs.length∧Pv i σ H,⟨kvs.length,by simp,Nat.zero_le _,h0⟩,?_⟩
 rintro i m σ H ⟨rfl,hi,p⟩
 have q:=hl i σ H hi p
 by_cases hlt:i<kvs.length
 ·refine .inr ⟨⟨kvs,kvs[i],q,by simp[hlt]⟩,Pv (i+1),fun σ' H' p'=>⟨kvs.length - (i+1),by omega,rfl,hlt,p'⟩,fun x H' y=>?_⟩
  obtain⟨rfl,y⟩:=y
  obtain⟨kv,e1,rfl⟩:=y kvs q
  exact hs i kv σ H' e1 p
 ·have e:i=kvs.length:=by omega
  subst e
  exact .inl ⟨⟨kvs,q,Nat.le_refl _⟩,hd σ H p⟩
variable {js : List Nat}{tt : TT}{te : TE}{σ : St}{F : Addr → Hp → Prop}{H : Hp}
theorem bF {α:Type}(keep:Nat→Bool)(g:Nat→α)(i:Nat):((List.range (i+1)).filter keep).map g=((List.range i).filter keep).map g++(if keep i=true then [g i] else []):=by
 rw[List.range_succ,List.filter_append,List.map_append]
 by_cases c:keep i=true
 ·simp[c]
 ·simp[c]
theorem eF {α:Type}(keep:Nat→Bool)(g:Nat→α)(i:Nat):(((List.range i).filter keep).map g).length≤i:=by
 rw[List.length_map]
 exact Nat.le_trans (List.length_filter_le _ _) (by rw[List.length_range];exact Nat.le_refl _)
theorem qp (keep:Nat→Bool)(g:Nat→V)(hfr:H d=some (.frz o (.dK kvs)))(hz:kvs.length≤1000)
  (hs:∀ (i:Nat)(kv:Key×V) H2,kvs[i]?=some kv→Same H H2→tt (some (pr kv)::bM σ js) H2 fun b H4=>if b=true then te (some (pr kv)::bM σ js) H4 fun v H5=>keep i=true∧v=g i∧Same H2 H5 else keep i=false∧Same H2 H4)
  (hd:∀ l H',H l=none→Same H H'→H' l=some (.lst (((List.range kvs.length).filter keep).map g))→F l H'):bw 1 js (bg 0) tt te σ F (Itp pr o d) H:=by
 intro l hl0
 refine⟨fun i m σ' H2=>m=kvs.length - i∧i≤kvs.length∧(∃ o,σ'=o::bM σ js)∧Same H H2∧H2 l=some (.lst (((List.range i).filter keep).map g)),⟨kvs.length,by simp,Nat.zero_le _,⟨none,rfl⟩,az (Same.refl _) hl0,a9⟩,?_⟩
 rintro i m σ' H2 ⟨rfl,hi,⟨o',rfl⟩,e,hl⟩
 have q:=e _ _ hfr
 by_cases hlt:i<kvs.length
 ·refine .inr ⟨⟨kvs,kvs[i],q,by simp[hlt]⟩,fun x H3 y=>?_⟩
  obtain⟨rfl,y⟩:=y
  obtain⟨kv,e1,rfl⟩:=y kvs q
  refine⟨fun H4=>keep i=false∧Same H3 H4,fun v H5=>keep i=true∧v=g i∧Same H3 H5,fun H4 ⟨k4,e4⟩=>⟨_,?_,rfl,hlt,⟨_,rfl⟩,e.trans e4,?_⟩,fun v H5 ⟨k5,ev,e5⟩=>?_,hs i kv H3 e1 e⟩
  ·omega
  ·rw[bF,k4];simpa using e4 _ _ hl
  ·subst ev
   refine⟨_,e5 _ _ hl,Nat.lt_of_le_of_lt (eF keep g i) (Nat.lt_of_lt_of_le hlt (Nat.le_trans hz (by decide))),_,?_,rfl,hlt,⟨_,rfl⟩,aw (e.trans e5) hl0,?_⟩
   ·omega
   ·rw[a9,bF,k5];rfl
 ·have ei:i=kvs.length:=by omega
  subst ei
  exact .inl ⟨⟨kvs,q,Nat.le_refl _⟩,hd l H2 hl0 e hl⟩
theorem ki {K:PySem.W.Frag}{a:Addr}{xs:List V} (keep:Nat→Bool) (g:Nat→V) (ha:H a=some (.lst xs)) (hz:xs.length≤1000)
  (hs:∀ (i:Nat)(x:V) H2,xs[i]?=some x→Same H H2→tt (some x::bM σ js) H2 fun b H4=>if b=true then te (some x::bM σ js) H4 fun v H5=>keep i=true∧v=g i∧Same H2 H5 else keep i=false∧Same H2 H4)
  (hd:∀ l H',H l=none→Same H H'→H' l=some (.lst (((List.range xs.length).filter keep).map g))→F l H'):bw 1 js (bg 0) tt te σ F (Itl K a) H:=by
 intro l hl0
 refine⟨fun i m σ' H2=>m=xs.length - i∧i≤xs.length∧(∃ o,σ'=o::bM σ js)∧Same H H2∧H2 l=some (.lst (((List.range i).filter keep).map g)),⟨xs.length,by simp,Nat.zero_le _,⟨none,rfl⟩,az (Same.refl _) hl0,a9⟩,?_⟩
 rintro i m σ' H2 ⟨rfl,hi,⟨o',rfl⟩,e,hl⟩
 have q:SqL K H2 a xs:=SqL.of (e _ _ ha)
 by_cases hlt:i<xs.length
 ·refine .inr ⟨⟨xs,xs[i],q,by simp[hlt]⟩,fun x H3 y=>?_⟩
  obtain⟨rfl,y⟩:=y
  refine⟨fun H4=>keep i=false∧Same H3 H4,fun v H5=>keep i=true∧v=g i∧Same H3 H5,fun H4 ⟨k4,e4⟩=>⟨_,?_,rfl,hlt,⟨_,rfl⟩,e.trans e4,?_⟩,fun v H5 ⟨k5,ev,e5⟩=>?_,hs i x H3 (y xs q) e⟩
  ·omega
  ·rw[bF,k4];simpa using e4 _ _ hl
  ·subst ev
   refine⟨_,e5 _ _ hl,Nat.lt_of_le_of_lt (eF keep g i) (Nat.lt_of_lt_of_le hlt (Nat.le_trans hz (by decide))),_,?_,rfl,hlt,⟨_,rfl⟩,aw (e.trans e5) hl0,?_⟩
   ·omega
   ·rw[a9,bF,k5];rfl
 ·have ei:i=xs.length:=by omega
  subst ei
  exact .inl ⟨⟨xs,q,Nat.le_refl _⟩,hd l H2 hl0 e hl⟩
theorem ir {α β:Type}(xs:List α)(keep:α→Bool)(g:α→β)(kp:Nat→Bool)(gi:Nat→β)(h:∀ (i:Nat)(x:α),xs[i]?=some x→kp i=keep x∧gi i=g x):
  ((List.range xs.length).filter kp).map gi=(xs.filter keep).map g:=by
 have:∀ n,n≤xs.length→((List.range n).filter kp).map gi=((xs.take n).filter keep).map g:=by
  intro n
  induction n with
  | zero=>intro _;rfl
  | succ n ih=>
   intro hn
   have hx:xs[n]?=some xs[n]:=List.getElem?_eq_getElem (by omega)
   obtain⟨h1,h2⟩:=h n _ hx
   rw[bF,ih (by omega),List.take_add_one,hx,List.filter_append,List.map_append,h1]
   congr 1
   by_cases c:keep xs[n]=true
   ·simp[c,h2]
   ·simp[c]
 rw[this _ (Nat.le_refl _),List.take_of_length_le (Nat.le_refl _)]
end
abbrev G4 (K:PySem.W.Frag):TG:=ql K 4 (dR (bg 0) (dR (bg 1) (dR (bg 2) (dR (bg 3) sB))))
section
variable {K : PySem.W.Frag}{js : List Nat}{tt : TT}{te : TE}{σ : St}{F : Addr → Hp → Prop}{H : Hp}
theorem j1 {a:Addr}{xs:List V} (keep:Nat→Bool) (g:Nat→V) (ha:H a=some (.lst xs)) (hz:xs.length≤1000)
  (hf:∀ (i:Nat)(x:V),xs[i]?=some x→∃ p x1 x2 x3 x4,x=.ref p∧H p=some (.tup [x1,x2,x3,x4]))
  (hs:∀ (i:Nat)(p:Addr)(x1 x2 x3 x4:V) H2,xs[i]?=some (.ref p)→H p=some (.tup [x1,x2,x3,x4])→Same H H2→tt (some x1::some x2::some x3::some x4::bM σ js) H2 fun b H4=>
   if b=true then te (some x1::some x2::some x3::some x4::bM σ js) H4 fun v H5=>keep i=true∧v=g i∧Same H2 H5 else keep i=false∧Same H2 H4)
  (hd:∀ l H',H l=none→Same H H'→H' l=some (.lst (((List.range xs.length).filter keep).map g))→F l H'):bw 4 js (G4 K) tt te σ F (Itl K a) H:=by
 intro l hl0
 refine⟨fun i m σ' H2=>m=xs.length - i∧i≤xs.length∧(∃ o1 o2 o3 o4,σ'=o1::o2::o3::o4::bM σ js)∧Same H H2∧H2 l=some (.lst (((List.range i).filter keep).map g)),⟨xs.length,by simp,Nat.zero_le _,⟨none,none,none,none,rfl⟩,az (Same.refl _) hl0,a9⟩,?_⟩
 rintro i m σ' H2 ⟨rfl,hi,⟨o1,o2,o3,o4,rfl⟩,e,hl⟩
 have q:SqL K H2 a xs:=SqL.of (e _ _ ha)
 by_cases hlt:i<xs.length
 ·refine .inr ⟨⟨xs,xs[i],q,by simp[hlt]⟩,fun x H3 y=>?_⟩
  obtain⟨rfl,y⟩:=y
  have ex:=y xs q
  obtain⟨p,x1,x2,x3,x4,rfl,hp⟩:=hf i x ex
  refine⟨p,[x1,x2,x3,x4],rfl,SqT.of (e _ _ hp),rfl,x1,[x2,x3,x4],rfl,x2,[x3,x4],rfl,x3,[x4],rfl,x4,[],rfl,rfl,?_⟩
  refine⟨fun H4=>keep i=false∧Same H3 H4,fun v H5=>keep i=true∧v=g i∧Same H3 H5,fun H4 ⟨k4,e4⟩=>⟨_,?_,rfl,hlt,⟨_,_,_,_,rfl⟩,e.trans e4,?_⟩,fun v H5 ⟨k5,ev,e5⟩=>?_,hs i p x1 x2 x3 x4 H3 ex hp e⟩
  ·omega
  ·rw[bF,k4];simpa using e4 _ _ hl
  ·subst ev
   refine⟨_,e5 _ _ hl,Nat.lt_of_le_of_lt (eF keep g i) (Nat.lt_of_lt_of_le hlt (Nat.le_trans hz (by decide))),_,?_,rfl,hlt,⟨_,_,_,_,rfl⟩,aw (e.trans e5) hl0,?_⟩
   ·omega
   ·rw[a9,bF,k5];rfl
 ·have ei:i=xs.length:=by omega
  subst ei
  exact .inl ⟨⟨xs,q,Nat.le_refl _⟩,hd l H2 hl0 e hl⟩
theorem oX {o:Obj}{d:Addr}{kvs:List (Key×V)} (Pz:Nat→Hp→V→Prop) (mono:∀ i H H' v,Same H H'→Pz i H v→Pz i H' v) (hfr:H d=some (.frz o (.dK kvs))) (hz:kvs.length≤1000)
  (hf:∀ (i:Nat)(kv:Key×V),kvs[i]?=some kv→∃ p x1 x2 x3 x4,kv.2=.ref p∧H p=some (.tup [x1,x2,x3,x4]))
  (hs:∀ (i:Nat)(kv:Key×V)(p:Addr)(x1 x2 x3 x4:V) H2,kvs[i]?=some kv→kv.2=.ref p→H p=some (.tup [x1,x2,x3,x4])→Same H H2→te (some x1::some x2::some x3::some x4::bM σ js) H2 fun v H5=>Pz i H5 v∧Same H2 H5)
  (hd:∀ l H' vs,H l=none→Same H H'→H' l=some (.lst vs)→vs.length=kvs.length→(∀ (i:Nat) v,vs[i]?=some v→Pz i H' v∧v≠.ref l)→F l H') (hne:∀ i H v l,Pz i H v→(∃ ys,H l=some (.lst ys))→v≠.ref l) (hup:∀ i H v l ys,Pz i H v→v≠.ref l→Pz i (upd H l (.lst ys)) v):bw 4 js (G4 K) i8 te σ F (Itp (·.2) o d) H:=by
 intro l hl0
 refine⟨fun i m σ' H2=>m=kvs.length - i∧i≤kvs.length∧(∃ o1 o2 o3 o4,σ'=o1::o2::o3::o4::bM σ js)∧Same H H2∧∃ vs,H2 l=some (.lst vs)∧vs.length=i∧∀ (j:Nat) v,vs[j]?=some v→Pz j H2 v∧v≠.ref l,⟨kvs.length,by simp,Nat.zero_le _,⟨none,none,none,none,rfl⟩,az (Same.refl _) hl0,[],a9,rfl,fun j v z=>by simp at z⟩,?_⟩
 rintro i m σ' H2 ⟨rfl,hi,⟨o1,o2,o3,o4,rfl⟩,e,vs,hl,vl,hv⟩
 have q:=e _ _ hfr
 by_cases hlt:i<kvs.length
 ·refine .inr ⟨⟨kvs,kvs[i],q,by simp[hlt]⟩,fun x H3 y=>?_⟩
  obtain⟨rfl,y⟩:=y
  obtain⟨kv,e1,rfl⟩:=y kvs q
  obtain⟨p,x1,x2,x3,x4,ep,hp⟩:=hf i kv e1
  refine⟨p,[x1,x2,x3,x4],ep,SqT.of (e _ _ hp),rfl,x1,[x2,x3,x4],rfl,x2,[x3,x4],rfl,x3,[x4],rfl,x4,[],rfl,rfl,?_⟩
  refine⟨fun _=>False,fun v H5=>Pz i H5 v∧Same H3 H5,fun H4 z=>z.elim,fun v H5 ⟨p5,e5⟩=>?_,hs i kv p x1 x2 x3 x4 H3 e1 ep hp e⟩
  refine⟨vs,e5 _ _ hl,by rw[vl];exact Nat.lt_of_lt_of_le hlt (Nat.le_trans hz (by decide)),_,?_,rfl,hlt,⟨_,_,_,_,rfl⟩,aw (e.trans e5) hl0,vs++[v],a9,by simp[vl],fun j u hu=>?_⟩
  ·omega
  ·by_cases hj:j<vs.length
   ·rw[List.getElem?_append_left hj]at hu
    obtain⟨a1,a2⟩:=hv j u hu
    exact⟨hup _ _ _ _ _ (mono _ _ _ _ e5 a1) a2,a2⟩
   ·rw[List.getElem?_append_right (by omega)]at hu
    have h0:j - vs.length=0:=by
     have:=(List.getElem?_eq_some_iff.mp hu).1
     simp at this
     omega
    rw[h0]at hu
    have:u=v:=by simpa using hu.symm
    subst this
    have ji:j=i:=by omega
    subst ji
    have nv:=hne _ _ _ l p5 ⟨_,e5 _ _ hl⟩
    exact⟨hup _ _ _ _ _ p5 nv,nv⟩
 ·have ei:i=kvs.length:=by omega
  subst ei
  exact .inl ⟨⟨kvs,q,Nat.le_refl _⟩,hd l H2 vs hl0 e hl vl hv⟩
end
structure FunD (K : PySem.W.Frag) (x qual : Str) (st : Stmt) (f : Addr) (fd : FuncData) : Prop where
  ex : ∃ (oc : Value) (od : Option Addr) (dV kV doc pm : Value) (an : Option Addr) (cdv ct : Value) (osl : Array (Option Value)),
    fd = PySem.W.fnOf x qual (aQ st) (aJ st) (ah st) dV kV doc pm an cdv ct ∧ K.lookup f = some ⟨oc, od, .func fd, osl⟩ ∧ PySem.W.codeIn K cdv qual = true
  kp : PySem.W.keepIn K (.ref f) = true
section
variable {P : Program}{w : World}{K : PySem.W.Frag}{mg : Str → Option Value}{base : Heap}
theorem FunD.okX {x qual:Str}{st:Stmt}{f:Addr}{fd:FuncData}{N ps:List Str}{k:Nat}{sp:Sp} (F:FunD K x qual st f fd) (S:am N ps (ah st)) (len:∀ vs H Q E,sp vs H Q E→vs.length=ps.length)
  (hbody:∀ (cdv:Value)(A:Around)(outer:List Env)(s:Shared)(H:Hp)(vs:List V)(Q:VK)(E:XK),Room k (A.deeper (envOfC qual (ah st) s.heap.objs.size f cdv))→sp vs H Q E→
   ∃ t,PSs (j9 (CXE P w) P w K mg base N qual (ah st) f cdv A outer s H E) (aJ st) t∧t { nx:=fun _ H'=>Q .non H',rt:=Q } (start N vs) H):FnOk P w K mg base (CXE P w) (k+1) f fd ps sp:=by
 obtain⟨oc,od,dV,kV,doc,pm,an,cdv,ct,osl,rfl,lk,hcd⟩:=F.ex
 exact uc lk hcd S len fun A outer s H vs Q E hr hsp=>hbody cdv A outer s H vs Q E hr hsp
end
section
variable {X : Cx}{tg : Expr}
end
def Ite (K:PySem.W.Frag)(a:Addr):It:=
 ⟨fun i H=>∃ xs x,SqL K H a xs∧xs[i]?=some x,fun i H v H'=>∃ T,H T=none∧v=.ref T∧∃ x,(∀ xs,SqL K H a xs→xs[i]?=some x)∧H'=upd H T (.tup [.int i,x]),fun i H=>∃ xs,SqL K H a xs∧xs.length≤i⟩
def tnEn (e it a:Addr)(i:Nat)(h:Heap):Prop:=(∃ old,IsEnum h e it i old)∧h.IsListIter it a i
theorem rL {P:Program}{w:World}{K:PySem.W.Frag}{elts:List Expr}{x1:Nat}{tpos:Pos} (a e it:Addr) (ne:e≠it):p9 P w K (.Tuple elts x1 tpos) (Ite K a) [e,it] e (tnEn e it a) where
 mem:=by simp
 obj:=fun i h st c hc=>by
  obtain⟨⟨old,h1⟩,⟨o2,e2,c2,d2⟩⟩:=st
  simp only[List.mem_cons,List.not_mem_nil,or_false]at hc
  rcases hc with rfl|rfl
  ·exact⟨_,h1,fun v z=>by cases z⟩
  ·exact⟨_,e2,fun v z=>by rw[d2]at z;cases z⟩
 keep:=fun i h h' st k=>by
  obtain⟨⟨old,h1⟩,h2⟩:=st
  exact⟨⟨old,k e (by simp) _ h1⟩,h2.at fun o z=>k it (by simp) o z⟩
 item:=by
  intro X hP hw hK hc i pins s σ H E I hf st hg
  subst hP hw hK
  obtain⟨xs,x,hx,ex⟩:=hg
  obtain⟨⟨old,h1⟩,h2⟩:=st
  obtain⟨its,rv,p,hz⟩:=I.list hx
  obtain⟨w1,ew1,r1⟩:=rv.get ex
  refine wpAny_pyNext_enum_item h1 h2 p.isList (x:=w1) (by simpa using ew1) ne fun h' a1 a2 a3 a4 a5=>?_
  refine⟨_,rfl,wpAny_letOwnedTupleGo_enum (s:={ s with heap:=h',toks:=s.toks+1 }) a1 fun h'' b1 sb=>?_⟩
  have hT:H s.heap.objs.size=none:=I.hok.fresh (Nat.le_refl _)
  have zne:∀ c∈[e,it],c≠s.heap.objs.size:=fun c hc z=>by
   have:∃ o,s.heap.get? c=some o:=by
    simp only[List.mem_cons,List.not_mem_nil,or_false]at hc
    obtain⟨o2,e2,_⟩:=h2
    rcases hc with rfl|rfl
    ·exact⟨_,h1⟩
    ·exact⟨_,e2⟩
   obtain⟨o,q⟩:=this
   exact absurd (Heap.lt_size q) (by rw[z];exact Nat.lt_irrefl _)
  have kk:∀ c o,c∉[e,it]→s.heap.get? c=some o→h''.get? c=some o:=fun c o hc z=>by
   simp only[List.mem_cons,List.not_mem_nil,or_false,not_or]at hc
   exact sb.extBut _ _ hc.1 (a5 c o hc.1 hc.2 z)
  have I1:Inv X pins σ H { s with heap:=h'',toks:=s.toks+1 }:=I.turnedN (t':=s.toks+1) (ch:=[e,it]) hf kk
  have I2:Inv X pins σ (upd H s.heap.objs.size (.tup [.int i,x])) { s with heap:=h'',toks:=s.toks+1 }:=by
   refine I1.track (I.fpOk (Nat.le_refl _) hT) I.sz ⟨by show 2≤sizeLine;decide,[.int i s.toks,w1],.cons ⟨_,rfl⟩ (.cons r1 .nil),?_⟩
   exact⟨_,sb.extBut _ _ (Ne.symm (zne e (by simp))) a3,rfl,_,rfl⟩
  refine⟨.ref s.heap.objs.size,_,I2,rfl,⟨_,hT,rfl,x,fun xs' hx'=>by rw[I.list_inj hx' hx];exact ex,rfl⟩,⟨⟨w1,?_⟩,?_⟩,fun c hc=>?_⟩
  ·simpa using b1
  ·exact a2.extBut sb.extBut (Ne.symm ne)
  ·rw[aa (zne c hc)]
   exact (hf c hc).1
 done:=by
  intro X hP hw hK hc i pins s σ H E I hf st hg
  subst hP hw hK
  obtain⟨xs,hx,hl⟩:=hg
  obtain⟨⟨old,h1⟩,h2⟩:=st
  obtain⟨its,rv,p,hz⟩:=I.list hx
  have l1:=rv.length
  refine wpAny_pyNext_enum_end (I.ok.hd hc) h1 h2 p.isList (by simp;omega) fun h' kk=>⟨rfl,I.turnedN (t':=s.toks) (ch:=[e,it]) hf fun c o hc z=>?_⟩
  simp only[List.mem_cons,List.not_mem_nil,or_false,not_or]at hc
  exact kk c o hc.2 z
 self:=fun _ _ _ _ _ st h=>wpAny_pyIter_enum st.1.choose_spec h
theorem ko:bootBuiltins "enumerate"=some (.type "enumerate"):=by decide +kernel
def iEnum (K:PySem.W.Frag)(ta:TA):TI:=fun σ H R=>ta σ H fun vs H1=>∃ a xs,vs=[.ref a]∧H1 a=some (.lst xs)∧R (Ite K a) H1
theorem qN {X:Cx}(K:PySem.W.Frag){elts:List Expr}{x1:Nat}{tpos:Pos}{e1:Expr}{ta:TA}{p pos:Pos} (hg:Gl X "enumerate") (hm:X.mg "enumerate"=none) (ha:PA X [e1] ta) (hK:X.K=K:=by rfl)
  (hs:starEach [e1] X.env=[(false,eval e1 X.env)]:=by rfl):PI X (.Tuple elts x1 tpos) (.Call (.Name "enumerate" p) [e1] [] pos) (iEnum K ta):=by
 subst hK
 intro pins s σ H R I h
 refine Call_ (iE I hg hm ko (PyProof.Rows.callWith_type1 (thn (ha pos pins s σ H _ I h) fun us s1 ⟨vs,H1,I1,r1,q1⟩=>?_) hs rfl))
 obtain⟨a,xs,rfl,hx,q⟩:=q1
 obtain⟨u,rfl,ru⟩:=dH r1
 cases ru
 obtain⟨its,n,rv,ho,hz⟩:=I1.lst hx
 refine call_enumerate_1 ho fun h' a1 a2 a3 a4=>wpAny_pyIter_enum a1 ?_
 have I2:Inv X pins σ H1 { s1 with heap:=h' }:=I1.kept (t':=s1.toks) a4
 refine⟨_,[s1.heap.objs.size+1,s1.heap.objs.size],_,_,H1,rfl,I2,rL a _ _ (Nat.ne_of_gt (Nat.lt_succ_self _)),⟨⟨_,a1⟩,a2⟩,fun c hc=>?_,q⟩
 have le:@LE.le Nat _ s1.heap.objs.size c:=by
  simp only[List.mem_cons,List.not_mem_nil,or_false]at hc
  rcases hc with rfl|rfl
  ·exact Nat.le_succ _
  ·exact Nat.le_refl _
 exact I1.fpOk (H':=H1) (b:=c) le (I1.hok.fresh le)
theorem oA {K:PySem.W.Frag}{a:Addr}{xs:List V}{i1 i2:Nat}{tb:TS}{D:fX}{σ:St}{H:Hp} (Pv:Nat→St→Hp→Prop) (h0:Pv 0 σ H) (hl:∀ i σ H,i≤xs.length→Pv i σ H→SqL K H a xs)
  (hs:∀ (i:Nat)(x:V)(T:Addr) σ H,xs[i]?=some x→Pv i σ H→H T=none→tb { D with nx:=Pv (i+1),ct:=Pv (i+1),bk:=D.nx } ((σ.set i1 (some (.int i))).set i2 (some x)) (upd H T (.tup [.int i,x]))) (hd:∀ σ H,Pv xs.length σ H→D.nx σ H):
  ∃ W:Nat→Nat→St→Hp→Prop,(∃ m,W 0 m σ H)∧∀ i m σ H,W i m σ H→
   ((Ite K a).stop i H∧D.nx σ H)∨((Ite K a).go i H∧∃ N:St→Hp→Prop,(∀ σ' H',N σ' H'→∃ m',m'<m∧W (i+1) m' σ' H')∧∀ x H',(Ite K a).yld i H x H'→ql K 2 (dR (bg i1) (dR (bg i2) sB)) x σ H' fun σ2 H2=>tb { D with nx:=N,ct:=N,bk:=D.nx } σ2 H2):=by
 refine⟨fun i m σ H=>m=xs.length - i∧i≤xs.length∧Pv i σ H,⟨xs.length,by simp,Nat.zero_le _,h0⟩,?_⟩
 rintro i m σ H ⟨rfl,hi,p⟩
 have q:=hl i σ H hi p
 by_cases hlt:i<xs.length
 ·refine .inr ⟨⟨xs,xs[i],q,by simp[hlt]⟩,Pv (i+1),fun σ' H' p'=>⟨xs.length - (i+1),by omega,rfl,hlt,p'⟩,fun v H' y=>?_⟩
  obtain⟨T,hT,rfl,x,ex,rfl⟩:=y
  exact⟨T,[.int i,x],rfl,SqT.of a9,rfl,_,[x],rfl,_,[],rfl,rfl,hs i x T σ H (ex xs q) p hT⟩
 ·have e:i=xs.length:=by omega
  subst e
  exact .inl ⟨⟨xs,q,Nat.le_refl _⟩,hd σ H p⟩
section
variable {X : Cx}
end
section
variable {K : PySem.W.Frag}{α : Type} [DecidableEq α] {R : Hp → V → α → Prop}{k : Nat}
end
section
variable {K : PySem.W.Frag}{js : List Nat}{te : TE}{σ : St}{F : Addr → Hp → Prop}{H : Hp}
end
theorem pN {α β:Type}{xs:List α}{d:α}{f:α→β}:(List.range xs.length).map (fun i=>f (xs.getD i d))=xs.map f:=by
 apply List.ext_getElem?
 intro i
 rw[List.getElem?_map,List.getElem?_map]
 by_cases h:i<xs.length
 ·rw[List.getElem?_range h,List.getElem?_eq_getElem h]
  simp only[Option.map_some,List.getD_eq_getElem?_getD,List.getElem?_eq_getElem h,Option.getD_some]
 ·rw[List.getElem?_eq_none (by simpa using h),List.getElem?_eq_none (by omega)]
  rfl
section
variable {K : PySem.W.Frag}{js : List Nat}{te : TE}{σ : St}{F : Addr → Hp → Prop}{H : Hp}
theorem gM {a:Addr}{xs:List V} (g:Nat→V) (ha:H a=some (.lst xs)) (hz:xs.length≤1000)
  (hs:∀ (i:Nat)(x:V) H2,xs[i]?=some x→Same H H2→te (some x::bM σ js) H2 fun v H5=>v=g i∧Same H2 H5)
  (hd:∀ l H',H l=none→Same H H'→H' l=some (.lst ((List.range xs.length).map g))→F l H'):bw 1 js (bg 0) i8 te σ F (Itl K a) H:=by
 intro l hl0
 refine⟨fun i m σ' H2=>m=xs.length - i∧i≤xs.length∧(∃ o,σ'=o::bM σ js)∧Same H H2∧H2 l=some (.lst ((List.range i).map g)),⟨xs.length,by simp,Nat.zero_le _,⟨none,rfl⟩,az (Same.refl _) hl0,a9⟩,?_⟩
 rintro i m σ' H2 ⟨rfl,hi,⟨o',rfl⟩,e,hl⟩
 have q:SqL K H2 a xs:=SqL.of (e _ _ ha)
 by_cases hlt:i<xs.length
 ·refine .inr ⟨⟨xs,xs[i],q,by simp[hlt]⟩,fun x H3 y=>?_⟩
  obtain⟨rfl,y⟩:=y
  refine⟨fun H4=>False,fun v H5=>v=g i∧Same H3 H5,fun H4 z=>z.elim,fun v H5 ⟨ev,e5⟩=>?_,hs i x H3 (y xs q) e⟩
  subst ev
  refine⟨_,e5 _ _ hl,by simp only[List.length_map,List.length_range];exact Nat.lt_of_lt_of_le hlt (Nat.le_trans hz (by decide)),_,?_,rfl,hlt,⟨_,rfl⟩,aw (e.trans e5) hl0,?_⟩
  ·omega
  ·rw[a9,List.range_succ,List.map_append];rfl
 ·have ei:i=xs.length:=by omega
  subst ei
  exact .inl ⟨⟨xs,q,Nat.le_refl _⟩,hd l H2 hl0 e hl⟩
theorem oS {lo:Int}{n:Nat} (g:Nat→V) (hz:n≤1000)
  (hs:∀ (i:Nat) H2,i<n→Same H H2→te (some (.int (lo+i))::bM σ js) H2 fun v H5=>v=g i∧Same H2 H5)
  (hd:∀ l H',H l=none→Same H H'→H' l=some (.lst ((List.range n).map g))→F l H'):bw 1 js (bg 0) i8 te σ F (Itr lo n) H:=by
 intro l hl0
 refine⟨fun i m σ' H2=>m=n - i∧i≤n∧(∃ o,σ'=o::bM σ js)∧Same H H2∧H2 l=some (.lst ((List.range i).map g)),⟨n,by simp,Nat.zero_le _,⟨none,rfl⟩,az (Same.refl _) hl0,a9⟩,?_⟩
 rintro i m σ' H2 ⟨rfl,hi,⟨o',rfl⟩,e,hl⟩
 by_cases hlt:i<n
 ·refine .inr ⟨hlt,fun x H3 y=>?_⟩
  obtain⟨rfl,rfl⟩:=y
  refine⟨fun H4=>False,fun v H5=>v=g i∧Same H3 H5,fun H4 z=>z.elim,fun v H5 ⟨ev,e5⟩=>?_,hs i H3 hlt e⟩
  subst ev
  refine⟨_,e5 _ _ hl,by simp only[List.length_map,List.length_range];exact Nat.lt_of_lt_of_le hlt (Nat.le_trans hz (by decide)),_,?_,rfl,hlt,⟨_,rfl⟩,aw (e.trans e5) hl0,?_⟩
  ·omega
  ·rw[a9,List.range_succ,List.map_append];rfl
 ·have ei:i=n:=by omega
  subst ei
  exact .inl ⟨Nat.le_refl _,hd l H2 hl0 e hl⟩
end
end L2
namespace L2
open PySem
theorem mF:typeLookup (.type "list") "keys"=pure none:=by rw[typeLookup_type,builtinLookup_eq_fast];kernel_rfl
theorem iX:entryFor table "dict.update.loop"=some Builtin.«dict.update.loop»:=entryFor_of_tree (by kernel_rfl)
section
variable {prog : Program}{w : World}{A : Around}{E : Value → Shared → Prop}{s : Shared}{a : Addr}
theorem so {xs:Array Value}{k:Nat}{sl:Array (Option Value)}{Q:Option Value→Shared→Prop} (hx:s.heap.get? a=some ⟨.type "list",none,.seq xs k,sl⟩) (hA:A.handled=none)
  (h:∀ h' tk e,Heap.NewExcOf s.heap h' e "AttributeError"→Q none { s with heap:=h',toks:=tk }):wpAny (model prog w) A (getAttr? (.ref a) "keys") Q E s:=by
 obtain⟨hp,g,d,tk,os⟩:=s
 have hT:∀ tk',(⟨hp,g,d,tk',os⟩:Shared).TypeIs (.ref a) "list":=fun _=>⟨_,hx,rfl⟩
 have f1:=sub_AttributeError
 have f3:=F.slot_list_getattribute.lookup
 have f4:=F.slot_list_getattribute.bind (.ref a)
 have f5:=am_list_getattr_none
 unfold getAttr? getAttrBy? getAttrBy
 repeat (any_goals (first|assumption|exact hT _|((with_reducible show wpAny _ _ (call (Value.builtin "list.__getattribute__") _ _) _ _ _);refine call_meets F.slot_list_getattribute (hT _) am_entry_list_getattribute (F.args_list_getattribute_2 _ _) (meets_getattribute_miss_list a xs k sl "keys" _ mF (by decide) (by size_fits)) ⟨hx,hA,fun h' tk' e hx'=>?_⟩)|wp_step))
 obtain⟨t',u',he⟩:=hx'.there
 show wpAny _ _ (getattributeRaised _ _ _ _ _ _ _) _ _ _
 unfold getattributeRaised
 repeat (any_goals (first|assumption|wp_step))
 exact h _ _ _ hx'.of
end
section
variable {prog : Program}{w : World}{κ : Type} [DecidableEq κ] {knd : KeyKind prog w κ}
def rE (knd:KeyKind prog w κ)(h:Heap)(items:Array Value)(ps:List (κ×Value)):Prop:=items.size=ps.length∧∀ (i:Nat) x p,items[i]?=some x→ps[i]?=some p→∃ t u,x=.ref t∧h.IsTuple t #[u,p.2]∧knd.is p.1 u=true
theorem pZ {it l d:Addr}{items:Array Value}{ps:List (κ×Value)}{A:Around} (hh:A.handled=none) (hps:ps.length≤1000) (hdl:d≠l) (hil:it≠l) (hdi:d≠it) (R:Result→Shared→Prop):
  ∀ (n i:Nat)(s:Shared),n=ps.length - i→i≤ps.length→s.heap.IsListIter it l i→s.heap.IsList l items→rE knd s.heap items ps→s.heap.DictOf knd d (merged [] (ps.take i))→
   (∀ h' tk,h'.DictOf knd d (merged [] ps)→(∀ b o,b≠d→b≠it→s.heap.get? b=some o→h'.get? b=some o)→R (.ok (.ret .none)) { s with heap:=h',toks:=tk })→
   codeAny (model prog w) A (.builtin "dict.update.loop" ⟨[.ref d,.ref it,rawInt i,.none],[]⟩) R s:=by
 intro n
 induction n with
 | zero=>
  intro i s hn hi hit hl hp hd h
  have ei:i=ps.length:=by omega
  refine codeAny_builtin iX ?_
  unfold Builtin.«dict.update.loop»
  show wpAny _ _ (pyNext (.ref it) >>= _) _ _ _
  refine wpAny_bind (wpAny_pyNext_list_end hh hit hl (Array.getElem?_eq_none (by rw[hp.1];omega)) fun h' ext=>?_)
  show wpAny _ _ (Builtin.Dict.addKeywords d [] >>= _) _ _ _
  obtain⟨o,es,ep,ho,r⟩:=hd
  refine wpAny_bind (wpAny_pure (wpAny_pure (h h' _ ⟨o,es,ep,ext d o hdi ho,by rw[ei,List.take_length]at r;exact r⟩ fun b o hb1 hb2 hb=>ext b o hb2 hb)))
 | succ n ih=>
  intro i s hn hi hit hl hp hd h
  have hlt:i<ps.length:=by omega
  obtain⟨p,ep⟩:∃ p,ps[i]?=some p:=⟨_,List.getElem?_eq_getElem hlt⟩
  obtain⟨x,ex⟩:∃ x,items[i]?=some x:=⟨_,Array.getElem?_eq_getElem (by rw[hp.1];exact hlt)⟩
  obtain⟨t,u,rfl,ht,hk⟩:=hp.2 i x p ex ep
  refine codeAny_builtin iX ?_
  unfold Builtin.«dict.update.loop»
  show wpAny _ _ (pyNext (.ref it) >>= _) _ _ _
  have neT:∀ t' v',s.heap.IsTuple t' v'→t'≠it∧t'≠d:=fun t' v' ⟨o',ho',_,n',hd'⟩=>by
   obtain⟨oi,hoi,_,hdi'⟩:=hit
   obtain⟨od,es,ep,hod,_,hdd,_⟩:=hd
   constructor
   ·intro z
    rw[z,hoi]at ho'
    cases ho'
    rw[hdi']at hd'
    cases hd'
   ·intro z
    rw[z,hod]at ho'
    cases ho'
    rw[hdd]at hd'
    cases hd'
  refine wpAny_bind (wpAny_pyNext_list_item hit hl ex fun h1 hit1 sb1=>?_)
  have keep1:∀ b o,b≠it→s.heap.get? b=some o→h1.get? b=some o:=fun b o hb e=>(sb1.2 b hb).trans e
  have tup1:∀ t' v',s.heap.IsTuple t' v'→h1.IsTuple t' v':=fun t' v' z=>by
   obtain⟨o',ho',r'⟩:=id z
   exact⟨o',keep1 t' o' (neT t' v' z).1 ho',r'⟩
  have hd1:h1.DictOf knd d (merged [] (ps.take i)):=by
   obtain⟨o,es,ep,ho,r⟩:=hd
   exact⟨o,es,ep,keep1 d o hdi ho,r⟩
  have hl1:h1.IsList l items:=by
   obtain⟨o,ho,r⟩:=hl
   exact⟨o,keep1 l o hil.symm ho,r⟩
  obtain⟨ot,hot,hct,nt,hdt⟩:=tup1 t _ ht
  show wpAny _ _ (holding [.ref t] _ >>= _) _ _ _
  refine wpAny_bind (wpAny_holding (wpAny_bind (wpAny_tryCatch ?_)))
  unfold Builtin.Dict.pairItems
  refine wpAny_bind (wpAny_typeOf (T:="tuple") ⟨ot,hot,hct⟩ ?_)
  rw[if_pos (by decide)]
  refine wpAny_bind (wpAny_seqItems hot hdt (wpAny_pure ?_))
  show wpAny _ _ (holding [u,p.2] (dictSet d u p.2)) _ _ _
  have hml:(merged [] (ps.take i)).length≤sizeLine:=by
   have h1:=merged_length_le ([]:List (κ×Value)) (ps.take i)
   rw[List.length_take]at h1
   have h2:sizeLine=2 ^ 24:=rfl
   simp only[List.length_nil]at h1
   omega
  refine wpAny_holding (wpAny_dictSet_pairs (hsz:=hml) hk hd1 fun h2 hd2 sb2=>?_)
  have keep2:∀ b o,b≠d→h1.get? b=some o→h2.get? b=some o:=fun b o hb e=>(sb2.2 b hb).trans e
  refine wpAny_pure ⟨Code.quiet_builtin _ (by decide +kernel),?_⟩
  refine ih (i+1) { s with heap:=h2,toks:=s.toks+1 } (by omega) (by omega) ?_ ?_ ⟨hp.1,fun j x' p' h3 h4=>?_⟩ ?_ fun h' tk h3 h4=>h h' tk h3 fun b o hb1 hb2 hb=>h4 b o hb1 hb2 (keep2 b o hb1 (keep1 b o hb2 hb))
  ·obtain⟨oi,hoi,r⟩:=hit1
   exact⟨oi,keep2 it oi hdi.symm hoi,r⟩
  ·obtain⟨ol,hol,r⟩:=hl1
   exact⟨ol,keep2 l ol hdl.symm hol,r⟩
  ·obtain⟨t',u',e',ht',hk'⟩:=hp.2 j x' p' h3 h4
   obtain⟨o',ho',r'⟩:=tup1 t' _ ht'
   exact⟨t',u',e',⟨o',keep2 t' o' (neT t' _ ht').2 ho',r'⟩,hk'⟩
  ·rw[merged_take_succ _ _ i p ep]
   exact hd2
theorem qu {A:Around}{E:Value→Shared→Prop}{s:Shared}{l:Addr}{items:Array Value}{n:Nat}{sl:Array (Option Value)}{ps:List (κ×Value)}{Q:Value→Shared→Prop} (hh:A.handled=none) (hl:s.heap.get? l=some ⟨.type "list",none,.seq items n,sl⟩) (hp:rE knd s.heap items ps) (hps:ps.length≤1000)
  (h:∀ h' tk,h'.DictOf knd s.heap.objs.size (merged [] ps)→(∀ b o,s.heap.get? b=some o→h'.get? b=some o)→Q (.ref s.heap.objs.size) { s with heap:=h',toks:=tk }):
  wpAny (model prog w) A (call (.type "dict") [.ref l]) Q E s:=by
 refine callType_codes (Q₁:=fun obj s₁=>obj=.ref s.heap.objs.size∧s₁={ s with heap:=s.heap.push { cls:=.type "dict",data:=.dict #[] } }) F.kt_called_dict (F.kt_typeCall_dict_1 _) F.entry_dict_init (kt_code_dict_new _ ⟨rfl,rfl⟩) ?_
 rintro obj s₁ ⟨rfl,rfl⟩
 have hnew:(s.heap.push { cls:=.type "dict",data:=.dict #[] }).DictOf knd s.heap.objs.size []:=Heap.DictOf.new s.heap
 have hl':=Heap.get?_push_of_some (h:=s.heap) { cls:=.type "dict",data:=.dict #[] } hl
 refine⟨hnew.typeIs,F.args_dict_init_2 _ _,?_⟩
 unfold Builtin.«dict.__init__»
 refine wpAny_bind ?_
 unfold Builtin.Dict.selfAndRest
 refine wpAny_bind (wpAny_notOrdered_dict hnew.typeIs ?_)
 show wpAny _ _ (pure (s.heap.objs.size,[Value.ref l])) _ _ _
 refine wpAny_pure ?_
 show wpAny _ _ (Builtin.Dict.updateFrom "dict.__init__" s.heap.objs.size (.ref l) [] .none) _ _ _
 unfold Builtin.Dict.updateFrom
 refine wpAny_bind (wpAny_typeOf (T:="list") ⟨_,hl',rfl⟩ ?_)
 rw[if_pos (by decide)]
 refine wpAny_bind (so hl' hh fun h1 tk1 e1 ne1=>?_)
 rw[if_pos (show (none:Option Value).isNone=true from rfl)]
 have keep0:∀ b o,s.heap.get? b=some o→h1.get? b=some o:=fun b o e=>ne1.keeps b o (Heap.get?_push_of_some _ e)
 have hl1:h1.IsList l items:=⟨_,keep0 _ _ hl,rfl,n,rfl⟩
 refine wpAny_bind (wpAny_rule ?_)
 refine wpAny_bind (wpAny_pyIter_list (s:={ s with heap:=h1,toks:=tk1 }) hl1 ?_)
 refine wpAny_pure ⟨Code.quiet_builtin _ (by decide +kernel),?_⟩
 have kp:∀ b o,h1.get? b=some o→(h1.push { cls:=.type "list_iterator",data:=.fields #[.ref l,.int 0 0] }).get? b=some o:=fun b o e=>Heap.get?_push_of_some _ e
 have hd1:h1.DictOf knd s.heap.objs.size []:=by
  obtain⟨o,es,ep,ho,r⟩:=hnew
  exact⟨o,es,ep,ne1.keeps _ _ ho,r⟩
 have nl:s.heap.objs.size≠l:=Nat.ne_of_gt (Heap.lt_size hl)
 have lt1:s.heap.objs.size<h1.objs.size:=by
  obtain⟨o,es,ep,ho,r⟩:=hd1
  exact Heap.lt_size ho
 refine pZ (A:=A.in1) (knd:=knd) hh hps nl (Nat.ne_of_gt (Heap.lt_size (keep0 _ _ hl))) (Nat.ne_of_lt lt1) _ ps.length 0 { s with heap:=h1.push { cls:=.type "list_iterator",data:=.fields #[.ref l,.int 0 0] },toks:=tk1 } (by omega) (Nat.zero_le _) ⟨_,Heap.get?_push_size _ rfl,rfl,rfl⟩ ?_ ⟨hp.1,fun i x p h3 h4=>?_⟩ ?_ fun h' tk hD keep=>?_
 ·obtain⟨o,ho,r⟩:=hl1
  exact⟨o,kp _ _ ho,r⟩
 ·obtain⟨t,u,e,⟨o,ho,r⟩,hk⟩:=hp.2 i x p h3 h4
  exact⟨t,u,e,⟨o,kp _ _ (keep0 _ _ ho),r⟩,hk⟩
 ·obtain⟨o,es,ep,ho,r⟩:=hd1
  exact⟨o,es,ep,kp _ _ ho,by rw[List.take_zero];exact r⟩
 ·refine⟨rfl,h h' tk hD fun b o e=>keep b o (Nat.ne_of_lt (Heap.lt_size e)) (Nat.ne_of_lt (Heap.lt_size (keep0 b o e))) (kp b o (keep0 b o e))⟩
end
section
variable {X : Cx}
def PairsL (H:Hp)(p:Addr)(kvs:List (Key×V)):Prop:=∃ xs,H p=some (.lst xs)∧Paired (fun v (kv:Key×V)=>∃ t,v=.ref t∧H t=some (.tup [kV kv.1,kv.2])) xs kvs
theorem nG {P:Program}{w:World}{H:Hp}{h:Heap} (hok:HOk P w H h):∀ {xs:List V}{kvs:List (Key×V)}{its:List Value},Paired (fun v (kv:Key×V)=>∃ t,v=.ref t∧H t=some (.tup [kV kv.1,kv.2])) xs kvs→Vals xs its→
  ∃ ps:List (Key×Value),KV kvs ps∧its.length=ps.length∧∀ (i:Nat) x p,its[i]?=some x→ps[i]?=some p→∃ t u,x=.ref t∧h.IsTuple t #[u,p.2]∧(aM P w).is p.1 u=true
 | _,_,_,.nil,.nil=>⟨[],.nil,rfl,fun i x p h1 _=>by simp at h1⟩
 | _,kv::_,_,.cons ⟨t,e,ht⟩ r,.cons (b:=b) rv rvs=>by
  obtain⟨ps,k1,k2,k3⟩:=nG hok r rvs
  subst e
  obtain rfl:b=Value.ref t:=rv
  obtain⟨_,its2,r2,ob,ho,hc,n,hd⟩:=(show ObjOk P w H h t (.tup [kV kv.1,kv.2]) from hok t _ ht)
  obtain⟨u,v,rfl,ru,rv2⟩:=vals2 r2
  refine⟨(kv.1,v)::ps,.cons ⟨rfl,rv2⟩ k1,by simp[k2],fun i x p h1 h2=>?_⟩
  cases i with
  | zero=>
   have h1:Value.ref t=x:=by simpa using h1
   have h2:(kv.1,v)=p:=by simpa using h2
   subst h1 h2
   exact⟨t,u,rfl,⟨ob,ho,hc,n,hd⟩,jX ru⟩
  | succ i=>exact k3 i x p (by simpa using h1) (by simpa using h2)
theorem cH (hc:X.calm=true):CallR X (.type "dict") (fun xs H Q=>∃ p kvs,xs=[.ref p]∧PairsL H p kvs∧kvs.length≤1000∧NewQ H (.dK (dw [] kvs)) Q):=by
 intro pins s σ H xs us Q I r h
 obtain⟨p,kvs,rfl,⟨ys,hy,hp⟩,hz,q⟩:=h
 obtain⟨u,rfl,rx⟩:=dH r
 obtain rfl:u=Value.ref p:=rx
 obtain⟨z,its,n,rv,e⟩:=(show ObjOk X.prog X.w H s.heap p (.lst ys) from I.hok p _ hy)
 obtain⟨ps,k1,k2,k3⟩:=nG I.hok hp rv
 have hkl:=KV.length k1
 refine qu (knd:=aM X.prog X.w) (ps:=ps) (I.ok.hd hc) e ⟨by rw[List.size_toArray];exact k2,fun i x p h1 h2=>k3 i x p (by simpa using h1) h2⟩ (by omega) fun h' tk hD keep=>?_
 have hz2:(dw [] kvs).length≤sizeLine:=by
  have h1:=dA kvs []
  rw[List.length_nil]at h1
  rw[sizeLine_eq];omega
 refine⟨.ref s.heap.objs.size,_,I.laid (t':=tk) keep (Nat.le_refl _) ?_,rfl,q.at (I.hok.fresh (Nat.le_refl _))⟩
 exact⟨hz2,beq_eq_false_iff_ne.mpr (Nat.ne_of_gt I.big),_,k1.merge .nil,hD⟩
end
end L2
namespace L2
open PySem PySem.Spec PySem.Calls PyProof.Rows
theorem iG:∀ {us:List Value}{ns:List Int},IntsAre us ns→Vals (ns.map V.int) us
 | _,_,.nil=>.nil
 | _,_,.cons _ t h=>.cons ⟨t,rfl⟩ (iG h)
theorem qY:∀ {us:List Value}{ns:List Int},us.length=ns.length→(∀ (j:Nat)(n:Int)(u:Value),ns[j]?=some n→us[j]?=some u→∃ t,u=.int n t)→IntsAre us ns
 | [],[],_,_=>.nil
 | u::us,n::ns,hl,h=>by
  obtain⟨t,rfl⟩:=h 0 n u rfl rfl
  exact .cons n t (qY (by simpa using hl) fun j m v h1 h2=>h (j+1) m v (by simpa using h1) (by simpa using h2))
 | [],_::_,hl,_=>by cases hl
 | _::_,[],hl,_=>by cases hl
section
variable {X : Cx}
theorem df (hc:X.calm=true):CallR X (.builtin "sorted") (fun xs H Q=>∃ d kvs ns,xs=[.ref d]∧H d=some (.dK kvs)∧kvs.map (·.1)=ns.map (fun n:Int=>(Sum.inl n:Key))∧ns.length<64∧
  ∀ ns':List Int,ns'.Perm ns→ns'.Pairwise (·≤·)→NewQ H (.lst (ns'.map V.int)) Q):=by
 intro pins s σ H xs us Q I r h
 obtain⟨d,kvs,ns,rfl,hd,hks,h64,q⟩:=h
 obtain⟨u,rfl,rx⟩:=dH r
 cases rx
 obtain⟨z,lo,vs,rel,o,es,ep,ho,hx,hdat,hk,hp,hnd⟩:=(show ObjOk X.prog X.w H s.heap d (.dK kvs) from I.hok d _ hd)
 have hl:es.size=vs.length:=by rw[← hp.length];simp
 have hkl:=KV.length rel
 have hkn:kvs.length=ns.length:=by have:=congrArg List.length hks;simpa using this
 refine call_function_entry kind_sorted plain_sorted entry_sorted (args_sorted1 _) ?_
 unfold Builtin.«sorted»
 refine wpAny_bind (m:=checkCount "sorted" 1 1 _) (wpAny_pure ?_)
 refine wpAny_bind (PySem.W.kdu_collect (A:=X.A.in1) (qI lo) (I.ok.hd hc) ⟨o,ho,hx,hdat⟩ (by rw[hl,← hkl];exact z) fun h' tk acc keep hacc=>?_)
 have hI:IntsAre acc.toList ns:=by
  refine qY (by have h1:=hacc.1;rw[← Array.length_toList]at h1;rw[h1,hl,← hkl,hkn]) fun j n u' hn hu=>?_
  have hkj:(kvs.map (·.1))[j]?=some (Sum.inl n):=by rw[hks,List.getElem?_map,hn];rfl
  rw[List.getElem?_map]at hkj
  obtain⟨kv,ekv,hkv⟩:=Option.map_eq_some_iff.mp hkj
  obtain⟨q',hq',hr'⟩:=Paired.at rel ekv
  have hj:j<es.size:=by rw[hl];exact (List.getElem?_eq_some_iff.mp hq').1
  have h1:(es[j]?).map (·.key)=some u':=hacc.2 j u' (by rw[← Array.getElem?_toList];exact hu)
  rw[Array.getElem?_eq_getElem hj]at h1
  have h2:=(Pairs.get? hp (e:=es[j]) (k:=q'.1) (v:=q'.2) (by rw[Array.getElem?_toList,Array.getElem?_eq_getElem hj]) hq').1
  have h3:es[j].key=u':=Option.some.inj h1
  have h4:=jm h2
  rw[← hr'.1,hkv]at h4
  rw[← h3]
  exact h4
 have hlen:acc.toList.length<64:=by
  have h1:=hacc.1
  rw[Array.length_toList,h1,hl,← hkl,hkn]
  exact h64
 refine wpAny_bind (wpAny_newList ?_ (Nat.le_trans (Nat.le_of_lt hlen) (by decide)))
 have hoL:(h'.push (seqObj "list" acc.toList.toArray 0)).get? h'.objs.size=some (seqObj "list" acc.toList.toArray 0):=Heap.get?_push_size _ rfl
 refine wpAny_bind (wpAny_holding (wpAny_call_entry slot_list_sort ⟨_,hoL,rfl⟩ entry_list_sort (list_sort_tree hoL hI hlen fun out ns' a1 a2 a3=>⟨_,rfl,?_⟩) (args_list_sort _)))
 refine wpAny_pure ⟨_,rfl,?_⟩
 have keep':∀ b u,h'.get? b=some u→(sortedHeap (h'.push (seqObj "list" acc.toList.toArray 0)) h'.objs.size acc.toList out).get? b=some u:=fun b u h1=>by
  have h2:=Heap.lt_size h1
  rw[sortedHeap_old (h:=h'.push (seqObj "list" acc.toList.toArray 0)) (Nat.ne_of_lt h2) (by rw[size_push'];exact Nat.lt_succ_of_lt h2)]
  exact Heap.get?_push_of_some _ h1
 obtain⟨e,hat⟩:=sortedHeap_at (out:=out) hoL
 have hval:Vals (ns'.map V.int) out.toList:=iG a1
 have hln:(ns'.map V.int).length≤sizeLine:=by
  rw[List.length_map,a2.length_eq]
  exact Nat.le_trans (Nat.le_of_lt h64) (by decide)
 have I1:=I.kept (t':=tk) keep
 refine⟨.ref h'.objs.size,_,I1.laid (t':=tk) keep' (Nat.le_refl _) (show ObjOk X.prog X.w _ _ _ (.lst (ns'.map V.int)) from ⟨hln,out.toList,e,hval,?_⟩),rfl,(q ns' a2 a3).at (I1.hok.fresh (Nat.le_refl _))⟩
 simpa using hat
end
theorem jo:∀ {us:List Value}{ns:List Int},Vals (ns.map V.int) us→IntsAre us ns
 | us,[],h=>by cases h;exact .nil
 | us,n::ns,h=>by
  cases h with
  | cons a b=>
   obtain⟨t,rfl⟩:=a
   exact .cons n t (jo b)
section
variable {X : Cx}
end
end L2
namespace L2
open PySem PySem.Spec PyProof.Rows
theorem cK {X:Cx}:fB X (fun _ _ _ _=>False):=fun pins σ H s e s' I h=>by
 obtain⟨ea,cls,a0,B,H',od,_,_,_,_,_,_,_,_,_,_,z⟩:=h
 exact z.elim
def uy (P:Program)(w:World)(K:PySem.W.Frag)(mg:Str→Option Value)(base:Heap)(k:Nat)(C:Addr)(m:Str)(ps:List Str)(dvs:List V)(sp:Sp):Prop:=
 ∃ f fd ds,Cls K C∧pe K C m f∧Binds K fd ps ds∧Vals dvs ds∧FnOk P w K mg base (CXE P w) k f fd ps sp
section
variable {X : Cx}{k : Nat}{C : Addr}{ps : List Str}{sp : Sp}{m : Str}{pos apos : Pos}{e o : Expr}{es : List Expr}{ta : TE}{t : TA}{W : St → XK}{dvs : List V}
theorem nA {f:Addr}{fd:FuncData}{pins:List (Addr×Obj)}{σ:St}{H:Hp}{s:Shared}{Q:VK}{us ds:List Value}{vs:List V} (F:FnOk X.prog X.w X.K X.mg X.base (CXE X.prog X.w) k f fd ps sp) (hr:Room k X.A) (hb:Binds X.K fd ps ds) (hd:Vals dvs ds) (hx:fB X W)
  (I:Inv X pins σ H s) (r:Vals vs us) (h:sp (vs++dvs) H Q (W σ)):wpAny (model X.prog X.w) X.A (call (.ref f) us) (EP X pins σ Q) X.xe s:=by
 have r2:Vals (vs++dvs) (us++ds):=r.append hd
 have hl:(us++ds).length=ps.length:=by rw[← r2.length];exact F.len _ _ _ _ h
 refine wpAny_call (codeAny_mono (F.run X.A X.stack s H ⟨us,[]⟩ (us++ds) (vs++dvs) Q (W σ) hr I.env0 (hb s us I.kIn hl) r2 h) fun r s' hq=>?_)
 cases r with
 | error e=>exact hx pins σ H s e s' I hq
 | ok fl=>
  cases fl with
  | ret u=>exact I.after hq
  | next=>exact False.elim hq
  | brk=>exact False.elim hq
  | cont=>exact False.elim hq
def uF (C:Addr)(m:Str)(sp:Sp)(dvs:List V)(W:St→XK)(ta:TE)(t:TA):TE:=fun σ H Q=>ta σ H fun x H1=>∃ a dx fs,x=.ref a∧H1 a=some (.ins C dx fs)∧fs.lookup m=none∧t σ H1 fun vs H2=>sp ((x::vs)++dvs) H2 Q (W σ)
theorem iA {pl:Sem Bool}(hx:fB X W)(he:PE X o ta)(D:uy X.prog X.w X.K X.mg X.base k C m ps dvs sp)(hr:Room k X.A)(ha:PA X (e::es) t)
  (hst:starEach (e::es) X.env=(false,eval e X.env)::starEach es X.env:=by rfl) (hpl:(backTo pos (starEach es X.env)).any (·.1)=false:=by rfl)
  (ht:eval (.Call (.Attribute o m apos) (e::es) [] pos) X.env=(do
   let ov ← eval o X.env
   standAt apos.atName
   let (f,first) ← holding [ov] (getMethod ov m pl)
   callWith pos f first (backTo pos (starEach (e::es) X.env)) (backToKw pos (keywordEach [] X.env))):=by rfl):
  PE X (.Call (.Attribute o m apos) (e::es) [] pos) (uF C m sp dvs W ta t):=by
 obtain⟨f,fd,ds,cl,hm,hb,hdv,F⟩:=D
 intro pins s σ H Q I h
 refine PySem.W.methodCall_KW (pl:=pl) (thn (he pins s σ H _ I h) fun u s1 ⟨x,H1,I1,rx,a,dx,fs,ex,ea,l,q⟩=>?_) ht
 subst ex
 obtain rfl:u=Value.ref a:=rx
 refine dc I1 ea cl hm l ?_
 refine PySem.W.callWith_K (first:=[.ref a]) (h₀:=X.base) I.ok.mod.kin hm.kp (thn (ha pos pins s1 σ H1 _ I1 q) fun us s2 ⟨vs,H2,I2,r,q2⟩=>⟨I2.kIn,?_⟩) hst hpl
 exact nA (us:=.ref a::us) (vs:=.ref a::vs) F hr hb hdv hx I2 (.cons rfl r) q2
end
end L2
namespace L2.Sk
open PySem
def pd (xs:Array Nat):Prop:=∀ i j,i<j→j<xs.size→xs.getD i 0<xs.getD j 0
theorem vq (xs:Array Nat){i:Nat}(h:i<xs.size)(d d':Nat):xs.getD i d=xs.getD i d':=by
 simp[Array.getD,h]
theorem kq {xs:Array Nat}{j:Nat} (hr:pd xs):∀ (f lo hi:Nat),hi - lo≤f→lo≤hi→hi≤xs.size→(∀ i,i<lo→xs.getD i 0<j)→(∀ i,hi≤i→i<xs.size→j≤xs.getD i 0)→
  SetTable.below.go xs j f lo hi≤xs.size∧(∀ i,i<SetTable.below.go xs j f lo hi→xs.getD i 0<j)∧(∀ i,SetTable.below.go xs j f lo hi≤i→i<xs.size→j≤xs.getD i 0)
 | 0,lo,hi,hf,hl,hh,h1,h2=>by
  have:lo=hi:=by omega
  subst this
  exact⟨hh,h1,h2⟩
 | f+1,lo,hi,hf,hl,hh,h1,h2=>by
  unfold SetTable.below.go
  by_cases hlt:lo<hi
  ·rw[if_pos hlt]
   have hm:(lo+hi) / 2<xs.size:=by omega
   simp only
   rw[vq xs hm j 0]
   by_cases hc:xs.getD ((lo+hi) / 2) 0<j
   ·rw[if_pos hc]
    refine kq hr f _ _ (by omega) (by omega) hh (fun i hi'=>?_) h2
    by_cases he:i=(lo+hi) / 2
    ·rw[he];exact hc
    ·have:=hr i ((lo+hi) / 2) (by omega) hm
     omega
   ·rw[if_neg hc]
    refine kq hr f _ _ (by omega) (by omega) (by omega) h1 (fun i hi' hs=>?_)
    by_cases he:i=(lo+hi) / 2
    ·rw[he];omega
    ·have:=hr ((lo+hi) / 2) i (by omega) hs
     omega
  ·rw[if_neg hlt]
   have:lo=hi:=by omega
   subst this
   exact⟨hh,h1,h2⟩
theorem p6 {xs:Array Nat}(hr:pd xs)(j:Nat):SetTable.below xs j≤xs.size∧(∀ i,i<SetTable.below xs j→xs.getD i 0<j)∧(∀ i,SetTable.below xs j≤i→i<xs.size→j≤xs.getD i 0):=by
 unfold SetTable.below
 exact kq hr _ _ _ (by omega) (Nat.zero_le _) (Nat.le_refl _) (fun i h=>absurd h (Nat.not_lt_zero _)) (fun i h h'=>by omega)
theorem dQ (xs:Array Nat)(i d:Nat):xs.getD i d=xs.toList.getD i d:=by
 rw[List.getD_eq_getElem?_getD,Array.getElem?_toList,Array.getD_eq_getD_getElem?]
theorem nB {xs:Array Nat}{j:Nat} (hr:pd xs) (hn:xs[SetTable.below xs j]?≠some j):pd (SetTable.insertAt xs (SetTable.below xs j) j):=by
 obtain⟨h1,h2,h3⟩:=p6 hr j
 generalize SetTable.below xs j=p at h1 h2 h3 hn
 have hl:(SetTable.insertAt xs p j).toList=xs.toList.take p++j::xs.toList.drop p:=SetTable.toList_insertAt xs p j
 have hs:(SetTable.insertAt xs p j).size=xs.size+1:=by
  rw[← Array.length_toList,hl,List.length_append,List.length_cons,List.length_take,List.length_drop,Array.length_toList]
  omega
 have at_:∀ i,(SetTable.insertAt xs p j).getD i 0=if i<p then xs.getD i 0 else if i=p then j else xs.getD (i - 1) 0:=fun i=>by
  rw[dQ,hl,List.getD_eq_getElem?_getD]
  have tl:(xs.toList.take p).length=p:=by rw[List.length_take,Array.length_toList];omega
  by_cases c1:i<p
  ·rw[if_pos c1,List.getElem?_append_left (by omega),List.getElem?_take_of_lt c1,dQ,List.getD_eq_getElem?_getD]
  ·rw[if_neg c1,List.getElem?_append_right (by omega),tl]
   by_cases c2:i=p
   ·rw[if_pos c2,c2,Nat.sub_self]
    rfl
   ·rw[if_neg c2,show i - p=(i - p - 1)+1 by omega,List.getElem?_cons_succ,List.getElem?_drop,dQ,List.getD_eq_getElem?_getD,show p+(i - p - 1)=i - 1 by omega]
 have hp:∀ i,p≤i→i<xs.size→j<xs.getD i 0:=fun i hi his=>by
  have hge:=h3 i hi his
  by_cases c:i=p
  ·subst c
   have:xs.getD i 0≠j:=fun z=>hn (by
    rw[Array.getElem?_eq_getElem his]
    congr 1
    simpa [Array.getD,his] using z)
   omega
  ·have:=hr p i (by omega) his
   have:=h3 p (Nat.le_refl _) (by omega)
   omega
 intro a b hab hb
 rw[hs]at hb
 rw[at_ a,at_ b]
 by_cases a1:a<p
 ·rw[if_pos a1]
  have ha:=h2 a a1
  by_cases b1:b<p
  ·rw[if_pos b1];exact hr a b hab (by omega)
  ·rw[if_neg b1]
   by_cases b2:b=p
   ·rw[if_pos b2];exact ha
   ·rw[if_neg b2]
    have:=hp (b - 1) (by omega) (by omega)
    omega
 ·rw[if_neg a1,if_neg (by omega:¬ b<p),if_neg (by omega:¬ b=p)]
  by_cases a2:a=p
  ·rw[if_pos a2];exact hp (b - 1) (by omega) (by omega)
  ·rw[if_neg a2];exact hr (a - 1) (b - 1) (by omega) (by omega)
theorem pM (n:Nat):pd (Array.range n):=fun i j h hj=>by
 have hj:j<n:=by simpa using hj
 have:∀ k,k<n→(Array.range n).getD k 0=k:=fun k hk=>by simp[Array.getD,hk]
 rw[this i (by omega),this j hj]
 exact h
structure Good (t : SetTable) (led : Bool) : Prop where
  rise : pd t.place
  none : t.dummies = #[]
  led : t.led = led
theorem Good.standIn {t:SetTable}{led:Bool} (g:Good t led) (n:Nat):Good (t.standIn n) led:=⟨pM n,rfl,g.led⟩
theorem r6 (j:Nat):SetTable.has #[] j=false:=rfl
theorem iO {t:SetTable}(hd:t.dummies=#[]){f:Nat→Int}{h:Int}:∀ (n:Nat)(p:SetTable.Probe)(j:Nat)(d:Option Nat),p.dummy=Option.none→SetTable.probe.go t f h n p=some (.empty j d)→d=Option.none∧t.place[SetTable.below t.place j]?≠some j
 | 0,p,j,d,_,e=>by cases e
 | n+1,p,j,d,hp,e=>by
  unfold SetTable.probe.go at e
  have hs:t.slot p.j=if t.place[SetTable.below t.place p.j]?==some p.j then .live (SetTable.below t.place p.j) else .empty:=by
   unfold SetTable.slot
   simp only
   rw[hd,r6]
   simp
  rw[hs]at e
  have ha:(t.advance p).dummy=Option.none:=by
   unfold SetTable.advance
   split
   ·exact hp
   ·exact hp
  by_cases c:(t.place[SetTable.below t.place p.j]?==some p.j)=true
  ·rw[if_pos c]at e
   simp only at e
   split at e
   ·cases e
   ·exact iO hd n _ j d ha e
  ·rw[if_neg c]at e
   simp only at e
   cases e
   exact⟨hp,fun z=>c (by rw[z];simp)⟩
theorem Good.layNew {t:SetTable}{led:Bool} (g:Good t led) (es:Array (Int×Value)) (h:Int) (x:Value):Good (PySem.layNew t es h x).2.1 led:=by
 unfold PySem.layNew
 split
 ·rename_i slot wd hfs
  unfold SetTable.freeSlot at hfs
  split at hfs
  ·rename_i j d he
   unfold SetTable.probe at he
   obtain⟨rfl,hn⟩:=iO g.none _ _ _ _ rfl he
   have hsl:slot=j:=by
    have:=congrArg (fun o=>o.map Prod.fst) hfs
    simpa using this.symm
   subst hsl
   have gp:Good (t.put slot).1 led:=by
    refine⟨nB g.rise hn,?_,g.led⟩
    show (if SetTable.has t.dummies slot then _ else t.dummies)=#[]
    rw[g.none,r6]
    rfl
   simp only
   unfold SetTable.orStandIn
   split
   ·exact gp
   ·exact gp.standIn _
  ·cases hfs
 ·exact g.standIn _
theorem jE (f:Nat→Option (Nat×Nat))(hf:∀ j q,f j=some q→q.1=j)(n:Nat):pd (((List.range n).filterMap f).map (·.1)).toArray:=by
 have hp:(((List.range n).filterMap f).map (·.1)).Pairwise (·<·):=by
  rw[List.pairwise_map]
  refine List.Pairwise.filterMap f ?_ (List.pairwise_lt_range (n:=n))
  intro a b hab x hx y hy
  rw[hf a x hx,hf b y hy]
  exact hab
 intro i j hij hj
 have hj:j<(((List.range n).filterMap f).map (·.1)).length:=by simpa using hj
 rw[dQ,dQ,List.getD_eq_getElem?_getD,List.getD_eq_getElem?_getD]
 simp only[List.getElem?_eq_getElem hj,List.getElem?_eq_getElem (Nat.lt_trans hij hj),Option.getD_some]
 exact List.pairwise_iff_getElem.mp hp i j _ _ hij
theorem Good.relay {t:SetTable}{led:Bool} (g:Good t led) (es:Array (Int×Value)) (w:Nat):Good (relayAll t es w).2.1 led:=by
 unfold relayAll
 split
 ·rename_i t' order hr
  simp only
  split
  ·unfold SetTable.relaid SetTable.laid at hr
   obtain⟨owner,_,he⟩:=Option.bind_eq_some_iff.mp hr
   have he:=Option.some.inj he
   have he:=(Prod.mk.inj he).1
   subst he
   refine⟨jE _ (fun j q hq=>?_) _,rfl,g.led⟩
   obtain⟨z,_,rfl⟩:=Option.map_eq_some_iff.mp hq
   rfl
  ·exact g.standIn _
 ·exact g.standIn _
end L2.Sk
namespace L2.Sk
open PySem PySem.Calls PyProof.Rows
def byT (w:World):Bool:=w.params.followText "set-order"
def dE (S:List Int)(k:Int):List Int:=if k∈S then S else S++[k]
def SetI (prog:Program)(w:World)(h:Heap)(a:Addr)(S:List Int):Prop:=
 ∃ o es ep t ms,h.get? a=some o∧o.ExactSet∧o.data=.set es ep t∧t.fits es.size=true∧Good t (!byT w)∧ElemsOf (intKind prog w) es.toList∧IntsAre (es.toList.map (·.2)) ms∧ms.Perm S
theorem d9:∀ {vs:List Value}{ms:List Int},IntsAre vs ms→vs.length=ms.length
 | _,_,.nil=>rfl
 | _,_,.cons _ _ h=>by rw[List.length_cons,List.length_cons,d9 h]
theorem ou (k:Int):∀ {vs:List Value}{ms:List Int},IntsAre vs ms→(k∈ms ↔ ∃ v∈vs,Value.isInt k v=true)
 | _,_,.nil=>by simp
 | _,_,.cons n t h=>by
  have ih:=ou k h
  rw[List.mem_cons,ih]
  constructor
  ·rintro (rfl|⟨v,hv,e⟩)
   ·exact⟨_,List.mem_cons_self ..,by simp[Value.isInt]⟩
   ·exact⟨v,List.mem_cons_of_mem _ hv,e⟩
  ·rintro⟨v,hv,e⟩
   rcases List.mem_cons.mp hv with rfl|hv
   ·exact .inl (by have e:(n==k)=true:=e;exact (eq_of_beq e).symm)
   ·exact .inr ⟨v,hv,e⟩
theorem fP {vs vs':List Value}(p:vs'.Perm vs):∀ {ms:List Int},IntsAre vs ms→∃ ms',IntsAre vs' ms'∧ms'.Perm ms:=by
 induction p with
 | nil=>intro ms h;exact⟨ms,h,.rfl⟩
 | cons x p ih=>
  intro ms h
  cases h with
  | cons n t h=>
   obtain⟨ms',a,b⟩:=ih h
   exact⟨n::ms',.cons n t a,b.cons n⟩
 | swap x y l=>
  intro ms h
  cases h with
  | cons n t h=>
   cases h with
   | cons m u h=>exact⟨m::n::_,.cons m u (.cons n t h),.swap ..⟩
 | trans p q ih1 ih2=>
  intro ms h
  obtain⟨m1,a1,b1⟩:=ih2 h
  obtain⟨m2,a2,b2⟩:=ih1 a1
  exact⟨m2,a2,b2.trans b1⟩
theorem sy {vs:List Value}{ms:List Int} (h:IntsAre vs ms) (k:Int) (t:Tok):IntsAre (vs++[.int k t]) (ms++[k]):=by
 induction h with
 | nil=>exact .cons k t .nil
 | cons n u h ih=>exact .cons n u ih
section
variable {prog : Program}{w : World}{A : Around}{E : Value → Shared → Prop}{s : Shared}{a : Addr}{S : List Int}
theorem SetI.to {h h':Heap}(x:SetI prog w h a S)(k:∀ o,h.get? a=some o→h'.get? a=some o):SetI prog w h' a S:=let ⟨o,es,ep,t,ms,g,r⟩:=x;⟨o,es,ep,t,ms,k o g,r⟩
theorem kQ {h:Heap}{o:Obj}{es es':Array (Int×Value)}{ep:Nat}{t t':SetTable}{ms:List Int} (g:h.get? a=some o) (x:o.ExactSet) (d:o.data=.set es ep t) (f:t'.fits es'.size=true) (gd:Good t' (!byT w))
  (el:ElemsOf (intKind prog w) es'.toList) (im:IntsAre (es'.toList.map (·.2)) ms) (pm:ms.Perm S):(h.update a (Obj.putSet es' t')).get? a=some { o with data:=.set es' (ep+1) t' }∧SetI prog w (h.update a (Obj.putSet es' t')) a S:=by
 have hg:(h.update a (Obj.putSet es' t')).get? a=some { o with data:=.set es' (ep+1) t' }:=by
  have q:=Heap.get?_update_self (Obj.putSet es' t') g (by rw[putSet_of es' t' d];rfl)
  rwa [putSet_of es' t' d]at q
 exact⟨hg,_,es',ep+1,t',ms,hg,x,rfl,f,gd,el,im,pm⟩
theorem uL {k:Int}{tk:Tok}{Q:Bool→Shared→Prop} (h:SetI prog w s.heap a S) (hb:S.length+1<scanBound) (hq:∀ b h',Heap.SameBut a s.heap h'→SetI prog w h' a (dE S k)→Q b { s with heap:=h' }):
  wpAny (model prog w) A (setAddHashed a (.int k tk) ((intKind prog w).hash k)) Q E s:=by
 obtain⟨o,es,ep,t,ms,g1,g2,g3,g4,g5,g6,g7,g8⟩:=h
 have hkey:=intKind_is prog w k tk
 have hsz:es.size=S.length:=by
  have:=d9 g7
  rw[List.length_map,Array.length_toList,g8.length_eq]at this
  exact this
 have hsb:es.size<scanBound:=by omega
 unfold setAddHashed setAddHashedIn
 apply wpAny_holding
 apply wpAny_bind
 refine wpAny_setState_of g1 g3 g4 ?_
 dsimp only
 rw[byScan_of (knd:=intKind prog w) (x:=.int k tk) rfl hsb g6]
 simp only[↓reduceIte]
 unfold setAddByScan
 apply wpAny_bind
 apply wpAny_bind
 apply wpAny_rule
 apply wpAny_bind
 refine wpAny_setScan_of hkey g1 g3 g4 g6 ?_
 have memk:(∃ e∈es.toList,(intKind prog w).is k e.2=true) ↔ k∈S:=by
  rw[← g8.mem_iff,ou k g7]
  constructor
  ·rintro⟨e,he,q⟩
   exact⟨e.2,List.mem_map_of_mem he,q⟩
  ·rintro⟨v,hv,q⟩
   obtain⟨e,he,rfl⟩:=List.mem_map.mp hv
   exact⟨e,he,q⟩
 cases hr:List.findIdx? (fun e=>(intKind prog w).is k e.2) es.toList with
 | some j=>
  obtain⟨hj,hp,-⟩:=List.findIdx?_eq_some_iff_getElem.mp hr
  have hk:=memk.mp ⟨_,List.getElem_mem hj,hp⟩
  refine wpAny_pure (wpAny_pure ?_)
  have q:=hq false s.heap (Heap.SameBut.refl ..) (by unfold dE;rw[if_pos hk];exact⟨o,es,ep,t,ms,g1,g2,g3,g4,g5,g6,g7,g8⟩)
  exact q
 | none=>
  have hk:¬ k∈S:=fun z=>by
   obtain⟨e,he,q⟩:=memk.mpr z
   have:=List.findIdx?_eq_none_iff.mp hr e he
   rw[q]at this
   cases this
  have eS:dE S k=S++[k]:=if_neg hk
  rw[eS]at hq
  have p1:=layNew_perm t es ((intKind prog w).hash k) (.int k tk)
  have f1:=layNew_fits t es ((intKind prog w).hash k) (.int k tk)
  have d1:=g5.layNew es ((intKind prog w).hash k) (.int k tk)
  dsimp only
  generalize PySem.layNew t es ((intKind prog w).hash k) (Value.int k tk)=L at p1 f1 d1 ⊢
  obtain⟨es1,t1,wd,gave⟩:=L
  dsimp only at p1 f1 d1 ⊢
  rw[Array.toList_push]at p1
  have gw:∀ (b:Bool) {s₁:Shared}{R:Unit→Shared→Prop},R () s₁→wpAny (model prog w) A (match b with|true=>rule "set.scan.the-table-gave-way"|false=>pure ()) R E s₁:=fun b=>by
   cases b with
   | true=>exact fun q=>wpAny_rule q
   | false=>exact fun q=>wpAny_pure q
  have l1:ElemsOf (intKind prog w) es1.toList:=(g6.push hkey rfl).perm p1
  obtain⟨m1,i1,n1⟩:=fP (p1.map (·.2)) (by rw[List.map_append];exact sy g7 k tk)
  have n1:m1.Perm (S++[k]):=n1.trans (g8.append_right [k])
  have z1:es1.size=S.length+1:=by
   have:=d9 i1
   rw[List.length_map,Array.length_toList,n1.length_eq,List.length_append]at this
   exact this
  have b1:es1.size<scanBound:=by omega
  apply wpAny_bind
  refine gw _ ?_
  have tail:wpAny (model prog w) A (do
    storeSet a es1 t1
    if (!wd&&t1.tooFull)=true then
     match relayAll t1 es1 (SetTable.grown es1.size) with
     | (es2,t2,gave2)=>do
      (match gave2 with|true=>rule "set.scan.the-table-gave-way"|false=>pure ())
      storeSet a es2 t2
      pure (some true)
    else pure (some true)) (fun r s'=>∃ b,r=some b∧Q b s') E s:=by
   apply wpAny_bind
   obtain⟨o1,q1⟩:=kQ (prog:=prog) (w:=w) g1 g2 g3 f1 d1 l1 i1 n1
   refine wpAny_storeSet_of g1 g3 ?_ (fits_of_scanBound b1)
   split
   ·have p2:=relayAll_perm t1 es1 (SetTable.grown es1.size)
    have f2:=relayAll_fits t1 es1 (SetTable.grown es1.size)
    have d2:=d1.relay es1 (SetTable.grown es1.size)
    generalize relayAll t1 es1 (SetTable.grown es1.size)=L at p2 f2 d2 ⊢
    obtain⟨es2,t2,gave2⟩:=L
    dsimp only at p2 f2 d2 ⊢
    have z2:es2.size=es1.size:=by rw[← Array.length_toList,p2.length_eq,Array.length_toList]
    obtain⟨m2,i2,n2⟩:=fP (p2.map (·.2)) i1
    apply wpAny_bind
    refine gw _ ?_
    apply wpAny_bind
    refine wpAny_storeSet_of o1 rfl ?_ (fits_of_scanBound (by omega))
    obtain⟨_,q2⟩:=kQ (prog:=prog) (w:=w) o1 g2 rfl f2 d2 (l1.perm p2) i2 (n2.trans n1)
    exact wpAny_pure ⟨true,rfl,hq true _ ((Heap.SameBut.update ..).trans (Heap.SameBut.update ..)) q2⟩
   ·exact wpAny_pure ⟨true,rfl,hq true _ (Heap.SameBut.update ..) q1⟩
  have fin:∀ r s',(∃ b,r=some b∧Q b s')→wpAny (model prog w) A (match r with|some added=>pure added|none=>setAddHashedIn a (Value.int k tk) ((intKind prog w).hash k) 99999) Q E s':=by
   rintro r s' ⟨b,rfl,q⟩
   exact wpAny_pure q
  split
  ·apply wpAny_bind
   refine wpAny_pure ?_
   exact wpAny_mono tail fin fun _ _ q=>q
  ·apply wpAny_bind
   refine wpAny_pure ?_
   exact wpAny_mono tail fin fun _ _ q=>q
end
end L2.Sk
namespace L2.Sk
open PySem PySem.Calls PyProof.Rows PySem.Spec
def j5 (w:World):Obj:={ cls:=.type "set",dict:=none,data:=.set #[] 0 (.fresh 0 0 (!byT w)) }
theorem ua (w:World):Good (.fresh 0 0 (!byT w)) (!byT w):=⟨fun i j _ h=>absurd h (Nat.not_lt_zero _),rfl,rfl⟩
section
variable {prog : Program}{w : World}{A : Around}{E : Value → Shared → Prop}{s : Shared}{a : Addr}
theorem sY {h:Heap}(g:h.get? a=some (j5 w)):SetI prog w h a []:=⟨_,#[],0,_,[],g,⟨rfl,rfl,rfl⟩,rfl,rfl,ua w,(fun e he=>by simp at he),.nil,.nil⟩
theorem sX (v:Value){Q₁:Value→Shared→Prop}(q:Q₁ (.ref s.heap.objs.size) { s with heap:=s.heap.push (j5 w) }):codeAny (model prog w) A (.call (.builtin "set.__new__") ⟨[.type "set",v],[]⟩) (wants Q₁ E) s:=by
 apply codeAny_of_tree
 show wpAny _ A.in1 (do checkBuiltinCall "set.__new__" ⟨[.type "set",v],[]⟩;again (.builtin "set.__new__" ⟨[.type "set",v],[]⟩)) _ _ s
 apply wpAny_bind
 refine wpAny_of_eq (PySem.F.newCall_set_1 v) (wpAny_pure ⟨plainId_quiet PySem.F.plain_set_new _,?_⟩)
 apply codeAny_builtin PySem.F.entry_set_new
 rw[Around.under_plainId PySem.F.plain_set_new _];unfold Builtin.«set.__new__» Builtin.Frozenset.newClass
 have hsub:=sub_set_self
 obtain⟨hp,g,d,tk,os⟩:=s
 dsimp only;wp_walk
 apply wpAny_askSetting
 apply wpAny_pure
 dsimp only;simp only[newObj]
 apply wpAny_bind
 apply wpAny_alloc
 exact wpAny_pure (wpAny_pure q)
theorem n0 {R:Result→Shared→Prop}{I:Addr}{fp wr:List Addr}{n:Nat}{P:Nat→Value→Prop}{St:Nat→Heap→Prop} (W:Walks prog w A.in1 I fp wr n P St) (D:Addr) (hD:D∉fp) (val:Nat→Int) (hval:∀ i v,P i v→∃ t,v=.int (val i) t):
  ∀ (m i:Nat)(s:Shared)(S:List Int),n - i=m→i≤n→St i s.heap→SetI prog w s.heap D S→S.length+m+1<scanBound→
   (∀ h' tk,(∀ b o,b∉D::wr→s.heap.get? b=some o→h'.get? b=some o)→SetI prog w h' D (((List.range n).drop i).foldl (fun S j=>dE S (val j)) S)→R (.ok (.ret .none)) { s with heap:=h',toks:=tk })→
   codeAny (model prog w) A (.builtin "set.update.loop" ⟨[.ref D,.ref I],[]⟩) R s
 | 0,i,s,S,hm,hi,st,hS,hb,hR=>by
  have:i=n:=by omega
  subst this
  refine codeAny_builtin PyProof.Rows.F.entry_set_update_loop ?_
  rw[Around.under_plainId PyProof.Rows.F.plain_set_update_loop _]
  show wpAny _ A.in1 (pyNext (.ref I) >>= _) _ _ s
  apply wpAny_bind
  refine W.done s _ _ st fun h' tk hk=>?_
  show wpAny _ A.in1 (ret Value.none) _ _ _
  refine wpAny_pure (hR h' tk (fun b o hb e=>hk b o (fun z=>hb (List.mem_cons_of_mem _ z)) e) ?_)
  rw[List.drop_of_length_le (by simp)]
  exact hS.to fun o e=>hk D o (fun z=>hD (W.sub _ z)) e
 | m+1,i,s,S,hm,hi,st,hS,hb,hR=>by
  have hlt:i<n:=by omega
  refine codeAny_builtin PyProof.Rows.F.entry_set_update_loop ?_
  rw[Around.under_plainId PyProof.Rows.F.plain_set_update_loop _]
  show wpAny _ A.in1 (pyNext (.ref I) >>= _) _ _ s
  apply wpAny_bind
  refine W.item i s _ _ hlt st fun v h1 tk hP st1 hk=>?_
  obtain⟨t,rfl⟩:=hval i v hP
  have hS1:SetI prog w h1 D S:=hS.to fun o e=>hk D o (fun z=>hD (W.sub _ z)) e
  show wpAny _ A.in1 (holding [Value.int (val i) t] (setAdd D (.int (val i) t)) >>= _) _ _ _
  apply wpAny_bind
  apply wpAny_holding
  unfold setAdd
  apply wpAny_holding
  apply wpAny_bind
  refine (intKind prog w).pyHash (k:=val i) (intKind_is _ _ _ _) ?_
  refine uL (s:={ s with heap:=h1,toks:=tk+1 }) hS1 (by omega) fun b h2 sb hS2=>?_
  have hlen:(dE S (val i)).length≤S.length+1:=by
   unfold dE
   split
   ·omega
   ·rw[List.length_append];exact Nat.le_refl _
  refine wpAny_pure ⟨plainId_quiet PyProof.Rows.F.plain_set_update_loop _,?_⟩
  refine n0 W D hD val hval m (i+1) _ (dE S (val i)) (by omega) hlt (W.frame _ _ _ st1 fun b hb o e=>?_) hS2 (by omega) fun h3 tk3 k3 hS3=>?_
  ·show h2.get? b=some o
   rw[sb.2 b (fun z:b=D=>hD (z▸hb))]
   exact e
  ·refine hR h3 tk3 (fun b o hb e=>k3 b o hb ?_) ?_
   ·show h2.get? b=some o
    rw[sb.2 b (fun z:b=D=>hb (z▸List.mem_cons_self ..))]
    exact hk b o (fun z=>hb (List.mem_cons_of_mem _ z)) e
   ·rw[List.drop_eq_getElem_cons (show i<(List.range n).length by simpa using hlt),List.foldl_cons]
    simpa using hS3
end
def gL (ns:List Int):List Int:=ns.foldl dE []
theorem oP (ns:List Int):(List.range ns.length).foldl (fun S j=>dE S (ns.getD j 0)) []=gL ns:=by
 have e:(List.range ns.length).map (fun j=>ns.getD j 0)=ns:=by
  refine List.ext_getElem (by simp) fun i h1 h2=>?_
  simp[h2]
 have:=List.foldl_map (f:=fun j=>ns.getD j 0) (g:=dE) (l:=List.range ns.length) (init:=[])
 rw[e]at this
 exact this.symm
section
variable {prog : Program}{w : World}{A : Around}{E : Value → Shared → Prop}{s : Shared}{a : Addr}
theorem kK {l:Addr}{items:Array Value}{ns:List Int}{Q:Value→Shared→Prop} (hh:A.handled=none) (hl:s.heap.IsList l items) (hi:IntsAre items.toList ns) (hb:items.size+1<scanBound)
  (q:∀ h' tk,SetI prog w h' s.heap.objs.size (gL ns)→(∀ b o,s.heap.get? b=some o→h'.get? b=some o)→Q (.ref s.heap.objs.size) { s with heap:=h',toks:=tk }):wpAny (model prog w) A (call (.type "set") [.ref l]) Q E s:=by
 obtain⟨c,tl,hmro⟩:=PySem.F.called_set.mro
 have hmade:=PySem.F.called_set.made;have hsub:=PySem.F.called_set.sub
 apply wpAny_call
 apply codeAny_of_tree
 show wpAny _ _ (callAny (.type "set") _) _ _ _
 refine wpAny_pure ⟨Code.quiet_builtin _ (by decide +kernel),?_⟩
 apply codeAny_builtin PySem.F.entry_type_call
 rw[Around.under_plain (weight_type_call_type "set" [.ref l] []) rfl]
 have h1:=PySem.F.called_set.notType;have h2:=PySem.F.called_set.canCreate;have hct:=PySem.F.typeCall_set_1 (.ref l)
 repeat (any_goals (first|assumption|wp_step))
 have hlen:items.size=ns.length:=by have:=d9 hi;rwa [Array.length_toList]at this
 refine codeAny_mono (sX (.ref l) (E:=E) (Q₁:=fun obj s₁=>obj=.ref s.heap.objs.size∧s₁={ s with heap:=s.heap.push (j5 w) }) ⟨rfl,rfl⟩) fun r s₁ hr=>?_
 cases r with
 | error e=>exact hr
 | ok fl=>
  cases fl with
  | ret obj=>
   obtain⟨rfl,rfl⟩:=hr
   have hS:(s.heap.push (j5 w)).get? s.heap.objs.size=some (j5 w):=Heap.get?_push_size _ rfl
   have hT:Shared.TypeIs { s with heap:=s.heap.push (j5 w) } (.ref s.heap.objs.size) "set":=⟨_,hS,rfl⟩
   have hli:=PySem.F.called_set.init.lookup;have hbi:=PySem.F.called_set.init.bind (.ref s.heap.objs.size)
   repeat (any_goals (first|assumption|wp_step))
   refine codeAny_mono (codeAny_call_builtin (R:=wants (fun r s₂=>r=.none∧∃ h' tk,s₂={ s with heap:=h',toks:=tk }∧SetI prog w h' s.heap.objs.size (gL ns)∧∀ b o,s.heap.get? b=some o→h'.get? b=some o) E) PySem.F.called_set.init.plain PySem.F.entry_set_init (check_set_init_1 hT ?_)) fun r₂ s₂ hr₂=>?_
   ·obtain⟨ol,hol,hcl,nl,hdl⟩:=hl
    obtain⟨ocls,odict,odata,oslots⟩:=ol
    simp only at hcl hdl
    subst hcl
    subst hdl
    have hol2:(s.heap.push (j5 w)).get? l=some { cls:=.type "list",dict:=odict,data:=.seq items nl,slots:=oslots }:=Heap.get?_push_of_some _ hol
    have hsls:=PySem.F.sub_list_set;have hslf:=PySem.F.sub_list_frozenset
    have hne:(Value.type "list"==Value.type "dict")=false:=by decide
    have hl1:(s.heap.push (j5 w)).IsList l items:=⟨_,hol2,rfl,nl,rfl⟩
    unfold j5 at hS hT hol2 hl1 ⊢
    unfold Builtin.«set.__init__» noKeywords Builtin.Frozenset.updateFrom
    generalize hPI:pyIter=PI
    wp_walk
    subst hPI
    refine wpAny_pyIter_list hl1 ?_
    apply wpAny_bind
    apply wpAny_runValue
    have hlS:l<s.heap.objs.size:=Heap.lt_size hol
    have sz:(s.heap.push (j5 w)).objs.size=s.heap.objs.size+1:=Heap.size_push ..
    have hh3:A.in1.in1.in1.handled=none:=by simp[hh]
    have nI:l≠(s.heap.push (j5 w)).objs.size:=by rw[sz];exact Nat.ne_of_lt (Nat.lt_succ_of_lt hlS)
    have nD:s.heap.objs.size∉[(s.heap.push (j5 w)).objs.size,l]:=by
     rw[sz]
     simp only[List.mem_cons,List.not_mem_nil,or_false,not_or]
     exact⟨Nat.ne_of_lt (Nat.lt_succ_self _),Nat.ne_of_gt hlS⟩
    refine n0 (Walks.list hh3 _ l nI items) s.heap.objs.size nD (fun i=>ns.getD i 0) (fun i v hv=>IntsAre.int_at hi i v (by rw[Array.getElem?_toList];exact hv)) items.size 0 _ [] (by omega) (Nat.zero_le _) ⟨⟨_,Heap.get?_push_size _ rfl,rfl,rfl⟩,hl1.push _⟩ (sY (Heap.get?_push_of_some _ hS)) (by simp;omega) fun h' tk hk hS'=>?_
    apply wpAny_pure
    show wpAny _ _ (ret Value.none) _ _ _
    rw[List.drop_zero,hlen,oP]at hS'
    refine wpAny_pure ⟨rfl,h',tk,rfl,hS',fun b o e=>hk b o ?_ (Heap.get?_push_of_some _ (Heap.get?_push_of_some _ e))⟩
    have hb:=Heap.lt_size e
    simp only[List.mem_cons,List.not_mem_nil,or_false,not_or]
    refine⟨Nat.ne_of_lt hb,fun z=>?_⟩
    rw[z]at hb
    exact absurd hb (by rw[show (Heap.push s.heap _).objs.size=s.heap.objs.size+1 from Heap.size_push ..];exact Nat.not_lt.mpr (Nat.le_succ _))
   ·cases r₂ with
    | error e=>exact hr₂
    | ok fl₂=>
     cases fl₂ with
     | ret r=>
      obtain⟨rfl,h',tk,rfl,hS',hk'⟩:=hr₂
      repeat (any_goals (first|assumption|wp_step))
      exact q _ _ hS' hk'
     | _=>exact hr₂.elim
  | _=>exact hr.elim
end
theorem sV:entryFor table "set.__iter__"=some Builtin.«frozenset.__iter__»:=entryFor_alias (id':="frozenset.__iter__") (by kernel_rfl) rfl (by decide +kernel) (by kernel_rfl)
theorem si_next:Slot "set_iterator" "__next__" "set_iterator.__next__":=.of (owner:="set_iterator") (n:="__next__") (by rw[typeLookup_type,builtinLookup_eq_fast];kernel_rfl) (by decide +kernel) (by decide +kernel) (by decide +kernel) (by first|exact .inl (by decide +kernel)|exact .inr (by decide +kernel)) (by rw[isSubtype_type];kernel_rfl)
theorem qG:Slot "set_iterator" "__iter__" "set_iterator.__iter__":=.of (owner:="set_iterator") (n:="__iter__") (by rw[typeLookup_type,builtinLookup_eq_fast];kernel_rfl) (by decide +kernel) (by decide +kernel) (by decide +kernel) (by first|exact .inl (by decide +kernel)|exact .inr (by decide +kernel)) (by rw[isSubtype_type];kernel_rfl)
theorem cu:entryFor table "set_iterator.__next__"=some Builtin.«set_iterator.__next__»:=entryFor_of_tree (by kernel_rfl)
theorem mZ:Manifest.owners.lookup (String.ofList "set_iterator".toList.reverse.reverse)=some Manifest.sig_set_iterator:=by kernel_rfl
theorem cP (a:Value):argsOk "set_iterator.__next__" ⟨[a],[]⟩:=by
 unfold argsOk
 rw[signature?_of (id:="set_iterator.__next__") (n:=['_','_','t','x','e','n','_','_']) (o:=['r','o','t','a','r','e','t','i','_','t','e','s']) (by kernel_rfl) mZ]
 kernel_rfl
theorem lY (a:Value):argsOk "set_iterator.__iter__" ⟨[a],[]⟩:=by
 unfold argsOk
 rw[signature?_of (id:="set_iterator.__iter__") (n:=['_','_','r','e','t','i','_','_']) (o:=['r','o','t','a','r','e','t','i','_','t','e','s']) (by kernel_rfl) mZ]
 kernel_rfl
theorem kA:entryFor table "set_iterator.__iter__"=some Builtin.«dict_keyiterator.__iter__»:=entryFor_alias (id':="dict_keyiterator.__iter__") (by kernel_rfl) rfl (by decide +kernel) (by kernel_rfl)
theorem gK {α:Type}:∀ (l:List α)(k:Nat)(h:k<l.length),(l[k]::l.eraseIdx k).Perm l
 | x::xs,0,_=>.refl _
 | x::xs,k+1,h=>by
  have h:k<xs.length:=by simpa using h
  show (xs[k]::x::xs.eraseIdx k).Perm (x::xs)
  exact (List.Perm.swap ..).trans ((gK xs k h).cons x)
section
variable {prog : Program}{w : World}{A : Around}{E : Value → Shared → Prop}{s : Shared}{a : Addr}
theorem rF {src:Source}{n:Nat}{Q:Nat→Shared→Prop} (hn:n≠0) (q:∀ k d,k<n→Q k { s with drawn:=d }):wpAny (model prog w) A (choose src n) Q E s:=fun Γ p hΓ=>⟨hn,q _ _ (Nat.mod_lt _ (Nat.pos_of_ne_zero hn))⟩
theorem qy {α:Type}:∀ (n:Nat)(xs:List α)(s:Shared)(Q:List α→Shared→Prop),xs.length=n→(∀ ys d,ys.Perm xs→Q ys { s with drawn:=d })→wpAny (model prog w) A (drawOrder n xs) Q E s
 | 0,xs,s,Q,hl,q=>by
  obtain rfl:xs=[]:=List.length_eq_zero_iff.mp hl
  unfold drawOrder
  exact wpAny_pure (q [] s.drawn .nil)
 | n+1,[],s,Q,hl,q=>by cases hl
 | n+1,x::xs,s,Q,hl,q=>by
  unfold drawOrder
  apply wpAny_bind
  refine rF (by simp) fun k d hk=>?_
  rw[List.getElem?_eq_getElem hk]
  dsimp only
  apply wpAny_bind
  refine qy n _ _ _ (by rw[List.length_eraseIdx_of_lt hk];omega) fun ys d2 hp=>?_
  refine wpAny_pure ?_
  have hp2:((x::xs)[k]::ys).Perm (x::xs):=(hp.cons _).trans (gK _ _ hk)
  exact q _ d2 hp2
end
theorem qL {α:Type}(next:Nat→Nat):∀ (f k:Nat)(left:List α)(out:Array α),left.length=f→(pickOrder.go next f k left out).toList.Perm (out.toList++left)
 | 0,k,left,out,hl=>by
  obtain rfl:left=[]:=List.length_eq_zero_iff.mp hl
  unfold pickOrder.go
  rw[List.append_nil]
 | f+1,k,left,out,hl=>by
  have hk:next k % left.length<left.length:=Nat.mod_lt _ (by omega)
  unfold pickOrder.go
  rw[List.getElem?_eq_getElem hk]
  dsimp only
  have:=qL next f (k+1) (left.eraseIdx (next k % left.length)) (out.push left[next k % left.length]) (by rw[List.length_eraseIdx_of_lt hk];omega)
  refine this.trans ?_
  rw[Array.toList_push,List.append_assoc]
  exact List.Perm.append_left _ (gK _ _ hk)
theorem iw {α:Type}(next:Nat→Nat)(xs:Array α):(pickOrder next xs).toList.Perm xs.toList:=by
 unfold pickOrder
 simpa using qL next xs.size 0 xs.toList #[] (by simp)
def IsSI (h:Heap)(it a:Addr)(first:Value)(i n ep:Nat):Prop:=∃ o,h.get? it=some o∧o.cls=.type "set_iterator"∧o.data=.fields #[first,rawInt i,.ref a,rawInt n,rawInt ep]
def RawS (h:Heap)(a:Addr)(es:Array (Int×Value))(ep:Nat)(t:SetTable):Prop:=∃ o,h.get? a=some o∧o.ExactSet∧o.data=.set es ep t
theorem IsSI.to {h h':Heap}{it a:Addr}{f:Value}{i n ep:Nat} (x:IsSI h it a f i n ep) (k:∀ o,h.get? it=some o→h'.get? it=some o):IsSI h' it a f i n ep:=let ⟨o,g,r⟩:=x;⟨o,k o g,r⟩
theorem RawS.to {h h':Heap}{a:Addr}{es:Array (Int×Value)}{ep:Nat}{t:SetTable} (x:RawS h a es ep t) (k:∀ o,h.get? a=some o→h'.get? a=some o):RawS h' a es ep t:=let ⟨o,g,r⟩:=x;⟨o,k o g,r⟩
section
variable {prog : Program}{w : World}{A : Around}{E : Value → Shared → Prop}{s : Shared}{a it : Addr}{es : Array (Int×Value)}{i ep slot : Nat}{t : SetTable}
theorem qF {v:Value}{nx:Nat}{Q:Option Value→Shared→Prop} (I:IsSI s.heap it a (rawInt slot) i es.size ep) (x:RawS s.heap a es ep t) (hf:t.fits es.size=true)
  (hn:∀ (A:Around)(E:Value→Shared→Prop)(R:Option (Value×Nat)→Shared→Prop),R (some (v,nx)) s→wpAny (model prog w) A (setNext a slot i ep) R E s)
  (q:∀ h',IsSI h' it a (rawInt nx) (i+1) es.size ep→Heap.SameBut it s.heap h'→Q (some v) { s with heap:=h' }):wpAny (model prog w) A (pyNext (.ref it)) Q E s:=by
 obtain⟨u,u1,u2,u3⟩:=id I
 have T:s.TypeIs (.ref it) "set_iterator":=⟨u,u1,u2⟩
 obtain⟨o,g1,g2,g3⟩:=x
 unfold pyNext
 apply wpAny_bind
 apply wpAny_attempt
 refine wpAny_callSpecial?_slot (name:=Str.ofString "__next__") T si_next (wpAny_call_entry si_next T cu ?_ (cP _))
 unfold Builtin.«set_iterator.__next__»
 apply wpAny_bind
 refine wpAny_pure ?_
 apply wpAny_bind
 refine wpAny_fieldsOf u1 u3 ?_
 show wpAny _ _ (setEntries a >>= _) _ _ s
 apply wpAny_bind
 refine wpAny_setEntries_of g1 g3 hf ?_
 dsimp only
 rw[if_neg (by simp)]
 show wpAny _ _ (setNext a (slot:Int).toNat (i:Int).toNat (ep:Int).toNat >>= _) _ _ s
 rw[Int.toNat_natCast,Int.toNat_natCast,Int.toNat_natCast]
 apply wpAny_bind
 refine hn _ _ _ ?_
 dsimp only
 apply wpAny_bind
 refine wpAny_setField u1 u3 (by simp) ?_
 have J1:(s.heap.update it (Obj.mapFields (·.setIfInBounds 0 (rawInt (nx:Int))))).get? it=some _:=Heap.get?_update_self _ u1 (Obj.isFreed_of_fields (Obj.data_mapFields u3 _))
 have d1:=Obj.data_mapFields u3 (·.setIfInBounds 0 (rawInt (nx:Int)))
 apply wpAny_bind
 refine wpAny_setField J1 d1 (by simp) ?_
 have J2:=Heap.get?_update_self (Obj.mapFields (·.setIfInBounds 1 (rawInt ((i:Int)+1)))) J1 (Obj.isFreed_of_fields (Obj.data_mapFields d1 _))
 refine wpAny_pure ⟨_,rfl,wpAny_pure (q _ ⟨_,J2,?_,?_⟩ ((Heap.SameBut.update ..).trans (Heap.SameBut.update ..)))⟩
 ·rw[Obj.cls_mapFields,Obj.cls_mapFields];exact u2
 ·rw[Obj.data_mapFields d1];simp[rawInt]
theorem qD {Q:Option Value→Shared→Prop}{h:Heap} (hh:A.handled=none) (q:∀ h',Heap.ExtBut it h h'→Q none { s with heap:=h' }):
  wpAny (model prog w) A.in1 (do raiseNew (← newExc (.type "StopIteration") []):Sem PySem.Fin) (fun fin s'=>∃ v,fin=.done (.ret v)∧wpAny (model prog w) A (match (Except.ok (some v):Except Value (Option Value)) with
   | .ok (some v)=>pure (some v)
   | .ok none=>unsupported "iter:the-iterator's-class-has-lost-its-__next__-amid-the-walk"
   | .error e=>do if ← isInstance e (.type "StopIteration") then pure none else throw e) Q E s')
   (fun e s'=>wpAny (model prog w) A (match (Except.error e:Except Value (Option Value)) with
   | .ok (some v)=>pure (some v)
   | .ok none=>unsupported "iter:the-iterator's-class-has-lost-its-__next__-amid-the-walk"
   | .error e=>do if ← isInstance e (.type "StopIteration") then pure none else throw e) Q E s') { s with heap:=h }:=by
 apply wpAny_bind
 simp only[newExc,newTuple]
 apply wpAny_bind
 refine wpAny_newObj_type ?_ (by size_fits)
 refine wpAny_bind (m:=firstArgMember _ _) (wpAny_of_eq (a:=Value.none) (by first|rfl|(simp only[firstArgMember];rfl)) (wpAny_newObj_type ?_ (by size_fits)))
 simp only[raiseNew]
 apply wpAny_bind
 apply wpAny_handled
 rw[show A.in1.handled=none from hh]
 refine wpAny_throw ?_
 apply wpAny_bind
 refine wpAny_isInstance (T:="StopIteration") (b:=true) ⟨_,Heap.get?_push_size _ rfl,rfl⟩ isSubtype_stop ?_
 refine wpAny_pure (q _ ?_)
 have e0:Heap.ExtBut it h h:=fun b o _ e=>e
 exact (e0.push _).push _
theorem sW {Q:Option Value→Shared→Prop}(hh:A.handled=none)(I:IsSI s.heap it a (rawInt slot) i es.size ep)(x:RawS s.heap a es ep t)(hf:t.fits es.size=true)
  (hn:∀ (A:Around)(E:Value→Shared→Prop)(R:Option (Value×Nat)→Shared→Prop),R none s→wpAny (model prog w) A (setNext a slot i ep) R E s)
  (q:∀ h',Heap.ExtBut it s.heap h'→Q none { s with heap:=h' }):wpAny (model prog w) A (pyNext (.ref it)) Q E s:=by
 obtain⟨u,u1,u2,u3⟩:=id I
 have T:s.TypeIs (.ref it) "set_iterator":=⟨u,u1,u2⟩
 obtain⟨o,g1,g2,g3⟩:=x
 unfold pyNext
 apply wpAny_bind
 apply wpAny_attempt
 refine wpAny_callSpecial?_slot (name:=Str.ofString "__next__") T si_next (wpAny_call_entry si_next T cu ?_ (cP _))
 unfold Builtin.«set_iterator.__next__»
 apply wpAny_bind
 refine wpAny_pure ?_
 apply wpAny_bind
 refine wpAny_fieldsOf u1 u3 ?_
 show wpAny _ _ (setEntries a >>= _) _ _ s
 apply wpAny_bind
 refine wpAny_setEntries_of g1 g3 hf ?_
 dsimp only
 rw[if_neg (by simp)]
 show wpAny _ _ (setNext a (slot:Int).toNat (i:Int).toNat (ep:Int).toNat >>= _) _ _ s
 rw[Int.toNat_natCast,Int.toNat_natCast,Int.toNat_natCast]
 apply wpAny_bind
 refine hn _ _ _ ?_
 dsimp only
 apply wpAny_bind
 refine wpAny_setField u1 u3 (by simp) ?_
 exact qD hh fun h' e=>q h' fun b o hb g=>e b o hb ((Heap.SameBut.update s.heap it _).extBut b o hb g)
theorem sU {v:Value}{tp:Addr}{ps:List Nat}{p:Nat}{Q:Option Value→Shared→Prop} (I:IsSI s.heap it a (.ref tp) i es.size ep) (x:RawS s.heap a es ep t) (hf:t.fits es.size=true)
  (ht:∃ o c,s.heap.get? tp=some o∧o.data=.seq (ps.map fun (j:Nat)=>rawInt j).toArray c) (hp:ps[i]?=some p) (hv:(es[p]?).map (·.2)=some v)
  (q:∀ h',IsSI h' it a (.ref tp) (i+1) es.size ep→Heap.SameBut it s.heap h'→Q (some v) { s with heap:=h' }):wpAny (model prog w) A (pyNext (.ref it)) Q E s:=by
 obtain⟨u,u1,u2,u3⟩:=id I
 have T:s.TypeIs (.ref it) "set_iterator":=⟨u,u1,u2⟩
 obtain⟨o,g1,g2,g3⟩:=x
 obtain⟨ot,ct,t1,t2⟩:=ht
 obtain⟨e,he,rfl⟩:=Option.map_eq_some_iff.mp hv
 unfold pyNext
 apply wpAny_bind
 apply wpAny_attempt
 refine wpAny_callSpecial?_slot (name:=Str.ofString "__next__") T si_next (wpAny_call_entry si_next T cu ?_ (cP _))
 unfold Builtin.«set_iterator.__next__»
 apply wpAny_bind
 refine wpAny_pure ?_
 apply wpAny_bind
 refine wpAny_fieldsOf u1 u3 ?_
 show wpAny _ _ (setEntries a >>= _) _ _ s
 apply wpAny_bind
 refine wpAny_setEntries_of g1 g3 hf ?_
 dsimp only
 rw[if_neg (by simp)]
 show wpAny _ _ (seqItems? (.ref tp) >>= _) _ _ s
 apply wpAny_bind
 refine wpAny_seqItems t1 t2 ?_
 dsimp only
 have ep':((ps.map fun (j:Nat)=>rawInt j).toArray)[(i:Int).toNat]?=some (.int (p:Int) 0):=by
  rw[Int.toNat_natCast]
  simp[hp,rawInt]
 rw[ep']
 dsimp only
 apply wpAny_bind
 unfold setNextDrawn
 apply wpAny_bind
 refine wpAny_setState_of g1 g3 hf ?_
 dsimp only
 rw[if_neg (by simp),Int.toNat_natCast,he]
 refine wpAny_pure ?_
 apply wpAny_bind
 refine wpAny_setField u1 u3 (by simp) ?_
 have J2:=Heap.get?_update_self (Obj.mapFields (·.setIfInBounds 1 (rawInt ((i:Int)+1)))) u1 (Obj.isFreed_of_fields (Obj.data_mapFields u3 _))
 refine wpAny_pure ⟨_,rfl,wpAny_pure (q _ ⟨_,J2,?_,?_⟩ (Heap.SameBut.update ..))⟩
 ·rw[Obj.cls_mapFields];exact u2
 ·rw[Obj.data_mapFields u3];simp[rawInt]
theorem uK {tp:Addr}{ps:List Nat}{Q:Option Value→Shared→Prop} (hh:A.handled=none) (I:IsSI s.heap it a (.ref tp) i es.size ep) (x:RawS s.heap a es ep t) (hf:t.fits es.size=true)
  (ht:∃ o c,s.heap.get? tp=some o∧o.data=.seq (ps.map fun (j:Nat)=>rawInt j).toArray c) (hp:ps.length≤i)
  (q:∀ h',Heap.ExtBut it s.heap h'→Q none { s with heap:=h' }):wpAny (model prog w) A (pyNext (.ref it)) Q E s:=by
 obtain⟨u,u1,u2,u3⟩:=id I
 have T:s.TypeIs (.ref it) "set_iterator":=⟨u,u1,u2⟩
 obtain⟨o,g1,g2,g3⟩:=x
 obtain⟨ot,ct,t1,t2⟩:=ht
 unfold pyNext
 apply wpAny_bind
 apply wpAny_attempt
 refine wpAny_callSpecial?_slot (name:=Str.ofString "__next__") T si_next (wpAny_call_entry si_next T cu ?_ (cP _))
 unfold Builtin.«set_iterator.__next__»
 apply wpAny_bind
 refine wpAny_pure ?_
 apply wpAny_bind
 refine wpAny_fieldsOf u1 u3 ?_
 show wpAny _ _ (setEntries a >>= _) _ _ s
 apply wpAny_bind
 refine wpAny_setEntries_of g1 g3 hf ?_
 dsimp only
 rw[if_neg (by simp)]
 show wpAny _ _ (seqItems? (.ref tp) >>= _) _ _ s
 apply wpAny_bind
 refine wpAny_seqItems t1 t2 ?_
 dsimp only
 have ep':((ps.map fun (j:Nat)=>rawInt j).toArray)[(i:Int).toNat]?=none:=by
  rw[Int.toNat_natCast]
  simp[hp]
 rw[ep']
 dsimp only
 apply wpAny_bind
 refine wpAny_setField u1 u3 (by simp) ?_
 have J1:(s.heap.update it (Obj.mapFields (·.setIfInBounds 0 (rawInt 0)))).get? it=some _:=Heap.get?_update_self _ u1 (Obj.isFreed_of_fields (Obj.data_mapFields u3 _))
 have d1:=Obj.data_mapFields u3 (·.setIfInBounds 0 (rawInt 0))
 apply wpAny_bind
 refine wpAny_setField J1 d1 (by simp) ?_
 exact qD hh fun h' e=>q h' fun b o hb g=>e b o hb ((Heap.SameBut.update _ it _).extBut b o hb ((Heap.SameBut.update s.heap it _).extBut b o hb g))
end
section
variable {prog : Program}{w : World}{A : Around}{E : Value → Shared → Prop}{s : Shared}{a it : Addr}{es : Array (Int×Value)}{i ep slot : Nat}{t : SetTable}
def fY (t:SetTable)(i:Nat):Nat:=if i=0 then 0 else t.place.getD (i - 1) 0+1
theorem qw (hr:pd t.place){n:Nat}(hs:t.place.size=n)(hi:i≤n):SetTable.below t.place (fY t i)=i:=by
 obtain⟨h1,h2,h3⟩:=p6 hr (fY t i)
 generalize hb:SetTable.below t.place (fY t i)=b at h1 h2 h3
 unfold fY at h2 h3
 by_cases h0:i=0
 ·rw[if_pos h0]at h2
  by_cases c:b=0
  ·omega
  ·exact absurd (h2 0 (by omega)) (Nat.not_lt_zero _)
 ·rw[if_neg h0]at h2 h3
  by_cases c1:b<i
  ·have:=h3 (i - 1) (by omega) (by omega)
   omega
  ·by_cases c2:i<b
   ·have k1:=h2 i c2
    have k2:=hr (i - 1) i (by omega) (by omega)
    omega
   ·omega
theorem kR (x:RawS s.heap a es ep t)(hf:t.fits es.size=true)(hb:byT w=false)(hd:(!t.plain&&decide (es.size > 1))=false)(hg:Good t true)(hi:i≤es.size){R:Option (Value×Nat)→Shared→Prop}
  (q:R ((es[i]?).map fun e=>(e.2,fY t (i+1))) s):wpAny (model prog w) A (setNext a (fY t i) i ep) R E s:=by
 obtain⟨o,g1,g2,g3⟩:=x
 have hs:t.place.size=es.size:=by
  simp only[SetTable.fits,Bool.and_eq_true,beq_iff_eq]at hf
  exact hf.1
 unfold setNext
 apply wpAny_bind
 refine wpAny_setState_of g1 g3 hf ?_
 dsimp only
 apply wpAny_bind
 unfold setsByText
 apply wpAny_bind
 apply wpAny_askSetting
 refine wpAny_pure ?_
 rw[show (model prog w).w.params.followText "set-order"=false from hb,if_neg (by decide)]
 refine wpAny_ite_split (fun z=>?_) (fun _=>?_)
 ·have z:(!t.plain&&decide (es.size > 1))=true:=z
  rw[hd]at z
  cases z
 apply wpAny_bind
 refine wpAny_ite_split (fun z=>?_) (fun _=>wpAny_pure ?_)
 ·have z:(!t.led&&!es.isEmpty)=true:=z
  rw[hg.led]at z
  cases z
 rw[qw hg.rise hs hi]
 refine wpAny_pure ?_
 cases he:es[i]? with
 | none=>rw[he]at q;exact q
 | some e=>
  rw[he]at q
  have hl:i<t.place.size:=by rw[hs];exact (Array.getElem?_eq_some_iff.mp he).1
  rw[Array.getElem?_eq_getElem hl]
  have:fY t (i+1)=t.place[i]+1:=by
   unfold fY
   rw[if_neg (by omega),Nat.add_sub_cancel]
   simp[Array.getD,hl]
  rw[this]at q
  exact q
theorem kS (x:RawS s.heap a es ep t)(hf:t.fits es.size=true)(hb:byT w=true){R:Option (Value×Nat)→Shared→Prop}
  (q:R (((pickOrder (w.params.setOrder a ep) es)[i]?).map fun e=>(e.2,slot)) s):wpAny (model prog w) A (setNext a slot i ep) R E s:=by
 obtain⟨o,g1,g2,g3⟩:=x
 unfold setNext
 apply wpAny_bind
 refine wpAny_setState_of g1 g3 hf ?_
 dsimp only
 apply wpAny_bind
 unfold setsByText
 apply wpAny_bind
 apply wpAny_askSetting
 refine wpAny_pure ?_
 rw[show (model prog w).w.params.followText "set-order"=true from hb,if_pos rfl,if_neg (by simp)]
 apply wpAny_bind
 unfold setWalk
 apply wpAny_bind
 refine wpAny_setState_of g1 g3 hf ?_
 dsimp only
 apply wpAny_bind
 unfold setsByText
 apply wpAny_bind
 apply wpAny_askSetting
 refine wpAny_pure ?_
 rw[show (model prog w).w.params.followText "set-order"=true from hb,if_pos rfl]
 apply wpAny_bind
 apply wpAny_askSetting
 exact wpAny_pure (wpAny_pure q)
theorem jY {P:Nat→Value→Prop}{acc:Array Value}{n:Nat} (h:ItemsOf P acc n) {L:List Value} (hl:L.length=n) (hp:∀ j v,P j v→L[j]?=some v):acc.toList=L:=by
 refine List.ext_getElem? fun j=>?_
 by_cases c:j<acc.size
 ·have:=hp j acc[j] (h.2 j _ (Array.getElem?_eq_getElem c))
  rw[this,Array.getElem?_toList,Array.getElem?_eq_getElem c]
 ·rw[List.getElem?_eq_none (by rw[Array.length_toList];omega),List.getElem?_eq_none (by rw[hl,← h.1];omega)]
theorem jz {Q:Value→Shared→Prop}{f:Value}{n:Nat} (I:IsSI s.heap it a f i n ep) (q:Q (.ref it) s):wpAny (model prog w) A (pyIter (.ref it)) Q E s:=by
 obtain⟨u,u1,u2,u3⟩:=id I
 have T:s.TypeIs (.ref it) "set_iterator":=⟨u,u1,u2⟩
 refine wpAny_pyIter_slot T qG (wpAny_call_entry qG T kA ?_ (lY _))
 show wpAny _ _ (ret (.ref it)) _ _ s
 exact wpAny_pure ⟨_,rfl,"set_iterator",_,T,si_next.lookup,q⟩
theorem walkC (hh:A.handled=none)(ne:a≠it)(hf:t.fits es.size=true)(hb:byT w=false)(hd:(!t.plain&&decide (es.size > 1))=false)(hg:Good t true):
  Walks prog w A it [it,a] [it] es.size (fun i v=>(es[i]?).map (·.2)=some v) (fun i h=>i≤es.size∧IsSI h it a (rawInt (fY t i)) i es.size ep∧RawS h a es ep t) where
 sub:=fun b hb=>by simp at hb;simp[hb]
 frame:=fun _ _ _ st hk=>⟨st.1,st.2.1.to fun o e=>hk it (by simp) o e,st.2.2.to fun o e=>hk a (by simp) o e⟩
 item:=fun i s Q E hi st hQ=>by
  have he:es[i]?=some es[i]:=Array.getElem?_eq_getElem hi
  refine qF (v:=es[i].2) (nx:=fY t (i+1)) st.2.1 st.2.2 hf (fun A E R q=>kR st.2.2 hf hb hd hg st.1 (by rw[he];exact q)) fun h' J sb=>?_
  exact hQ _ h' s.toks (by rw[he];rfl) ⟨hi,J,st.2.2.to fun o e=>sb.extBut a o ne e⟩ fun b o hb e=>sb.extBut b o (fun z=>hb (by simp[z])) e
 done:=fun s Q E st hQ=>by
  refine sW hh st.2.1 st.2.2 hf (fun A E R q=>kR st.2.2 hf hb hd hg st.1 (by rw[Array.getElem?_eq_none (Nat.le_refl _)];exact q)) fun h' eb=>?_
  exact hQ h' s.toks fun b o hb e=>eb b o (fun z=>hb (by simp[z])) e
 self:=fun _ _ _ _ st hQ=>jz st.2.1 hQ
theorem walkA (hh:A.handled=none)(ne:a≠it)(hf:t.fits es.size=true)(hb:byT w=true):
  Walks prog w A it [it,a] [it] es.size (fun i v=>((pickOrder (w.params.setOrder a ep) es)[i]?).map (·.2)=some v) (fun i h=>IsSI h it a (rawInt ((0:Nat):Int)) i es.size ep∧RawS h a es ep t) where
 sub:=fun b hb=>by simp at hb;simp[hb]
 frame:=fun _ _ _ st hk=>⟨st.1.to fun o e=>hk it (by simp) o e,st.2.to fun o e=>hk a (by simp) o e⟩
 item:=fun i s Q E hi st hQ=>by
  have hs:(pickOrder (w.params.setOrder a ep) es).size=es.size:=by
   have:=(iw (w.params.setOrder a ep) es).length_eq
   rwa [Array.length_toList,Array.length_toList]at this
  have he:=Array.getElem?_eq_getElem (xs:=pickOrder (w.params.setOrder a ep) es) (i:=i) (by omega)
  refine qF (v:=((pickOrder (w.params.setOrder a ep) es)[i]'(by omega)).2) (nx:=0) st.1 st.2 hf (fun A E R q=>kS st.2 hf hb (by rw[he];exact q)) fun h' J sb=>?_
  exact hQ _ h' s.toks (by rw[he];rfl) ⟨J,st.2.to fun o e=>sb.extBut a o ne e⟩ fun b o hb e=>sb.extBut b o (fun z=>hb (by simp[z])) e
 done:=fun s Q E st hQ=>by
  have hs:(pickOrder (w.params.setOrder a ep) es).size=es.size:=by
   have:=(iw (w.params.setOrder a ep) es).length_eq
   rwa [Array.length_toList,Array.length_toList]at this
  refine sW hh st.1 st.2 hf (fun A E R q=>kS st.2 hf hb (by rw[Array.getElem?_eq_none (by omega)];exact q)) fun h' eb=>?_
  exact hQ h' s.toks fun b o hb e=>eb b o (fun z=>hb (by simp[z])) e
 self:=fun _ _ _ _ st hQ=>jz st.1 hQ
theorem walkB (hh:A.handled=none){tp:Addr}{ps:List Nat} (ne:a≠it) (nt:tp≠it) (hf:t.fits es.size=true) (hp:ps.Perm (List.range es.size)):
  Walks prog w A it [it,tp,a] [it] es.size (fun i v=>∃ p,ps[i]?=some p∧(es[p]?).map (·.2)=some v) (fun i h=>IsSI h it a (.ref tp) i es.size ep∧RawS h a es ep t∧∃ o c,h.get? tp=some o∧o.data=.seq (ps.map fun (j:Nat)=>rawInt j).toArray c) where
 sub:=fun b hb=>by simp at hb;simp[hb]
 frame:=fun _ _ _ st hk=>⟨st.1.to fun o e=>hk it (by simp) o e,st.2.1.to fun o e=>hk a (by simp) o e,let ⟨o,c,e1,e2⟩:=st.2.2;⟨o,c,hk tp (by simp) o e1,e2⟩⟩
 item:=fun i s Q E hi st hQ=>by
  have hl:ps.length=es.size:=by have:=hp.length_eq;rwa [List.length_range]at this
  have h1:ps[i]?=some ps[i]:=List.getElem?_eq_getElem (by omega)
  have h2:ps[i]<es.size:=List.mem_range.mp (hp.mem_iff.mp (List.getElem_mem _))
  have h3:(es[ps[i]]?).map (·.2)=some (es[ps[i]].2):=by rw[Array.getElem?_eq_getElem h2];rfl
  refine sU st.1 st.2.1 hf st.2.2 h1 h3 fun h' J sb=>?_
  obtain⟨o,c,e1,e2⟩:=st.2.2
  exact hQ _ h' s.toks ⟨_,h1,h3⟩ ⟨J,st.2.1.to fun o e=>sb.extBut a o ne e,o,c,sb.extBut tp o nt e1,e2⟩ fun b o hb e=>sb.extBut b o (fun z=>hb (by simp[z])) e
 done:=fun s Q E st hQ=>by
  have hl:ps.length=es.size:=by have:=hp.length_eq;rwa [List.length_range]at this
  refine uK hh st.1 st.2.1 hf st.2.2 (by omega) fun h' eb=>?_
  exact hQ h' s.toks fun b o hb e=>eb b o (fun z=>hb (by simp[z])) e
 self:=fun _ _ _ _ st hQ=>jz st.1 hQ
end
end L2.Sk
namespace L2.Sk
open PySem PySem.Calls PyProof.Rows PySem.Spec PySem.W
section
variable {prog : Program}{w : World}{A : Around}{E : Value → Shared → Prop}{s : Shared}{a : Addr}{S : List Int}
theorem SetI.ty (h:SetI prog w s.heap a S):s.TypeIs (.ref a) "set":=let ⟨o,es,ep,t,ms,g1,g2,r⟩:=h;⟨o,g1,g2.1⟩
structure Trip (prog : Program) (w : World) (A : Around) (h : Heap) (a : Addr) (S : List Int) (I : Addr) (h' : Heap) (fp : List Addr) (P : Nat → Value → Prop) (St : Nat → Heap → Prop) (n : Nat) : Prop where
  walk : Walks prog w A I fp [I] n P St
  len : n = S.length
  st : St 0 h'
  fpo : ∀ b ∈ fp, b = a ∨ h.objs.size ≤ b
  new : h.objs.size ≤ I
  keep : ∀ b o, h.get? b = some o → h'.get? b = some o
  all : ∀ acc : Array Value, ItemsOf P acc n → ∃ ms, IntsAre acc.toList ms ∧ ms.Perm S
theorem sZ {Q:Value→Shared→Prop}(hh:A.handled=none)(h:SetI prog w s.heap a S)(hb:S.length<scanBound)(q:∀ I h' d fp P St n,Trip prog w A s.heap a S I h' fp P St n→Q (.ref I) { s with heap:=h',drawn:=d }):wpAny (model prog w) A (pyIter (.ref a)) Q E s:=by
 have T:=h.ty
 obtain⟨o,es,ep,t,ms,g1,g2,g3,g4,g5,g6,g7,g8⟩:=h
 have hl:es.size=S.length:=by have:=d9 g7;rwa [List.length_map,Array.length_toList,g8.length_eq]at this
 have hlt:=Heap.lt_size g1
 refine wpAny_pyIter_slot T PySem.F.slot_set_iter (wpAny_call_entry PySem.F.slot_set_iter T sV ?_ (PySem.F.args_set_iter_1 _))
 unfold Builtin.«frozenset.__iter__» Builtin.Frozenset.slot0 slotArgs
 simp only[List.isEmpty_nil,Bool.not_true,Bool.false_eq_true,↓reduceIte,bind_assoc,List.length_nil,bne_self_eq_false]
 unfold Builtin.Frozenset.addrOf Builtin.Frozenset.sizeOf
 apply wpAny_bind
 refine wpAny_pure ?_
 dsimp only
 apply wpAny_bind
 refine wpAny_pure ?_
 apply wpAny_bind
 apply wpAny_bind
 refine wpAny_setEntries_of g1 g3 g4 (wpAny_pure ?_)
 apply wpAny_bind
 unfold setDrawn
 apply wpAny_bind
 refine wpAny_setState_of g1 g3 g4 ?_
 dsimp only
 apply wpAny_bind
 unfold setsByText
 apply wpAny_bind
 apply wpAny_askSetting
 refine wpAny_pure (wpAny_pure ?_)
 have np:∀ {oI:Obj}{h:Heap},(∀ b o,s.heap.get? b=some o→h.get? b=some o)→s.heap.objs.size≤h.objs.size→∀ b o,s.heap.get? b=some o→(h.push oI).get? b=some o:=fun k _ b o e=>Heap.get?_push_of_some _ (k b o e)
 refine wpAny_ite_split (fun z=>?_) (fun z=>?_)
 ·have hb:byT w=false:=by
   have z:(!byT w&&(!t.plain&&decide (es.size > 1)))=true:=z
   cases hx:byT w with
   | false=>rfl
   | true=>rw[hx]at z;cases z
  apply wpAny_bind
  refine qy es.size (List.range es.size) _ _ List.length_range fun ps d hp=>?_
  apply wpAny_bind
  refine wpAny_newTuple ?_ (by rw[List.length_map,hp.length_eq,List.length_range];exact fits_of_scanBound (by omega))
  apply wpAny_bind
  refine wpAny_setEpoch_of (Heap.get?_push_of_some _ g1) g3 g4 ?_
  apply wpAny_bind
  refine wpAny_newObj_type ?_
  have sz:(s.heap.push (seqObj "tuple" (ps.map fun (i:Nat)=>rawInt i).toArray 0)).objs.size=s.heap.objs.size+1:=Heap.size_push ..
  refine wpAny_pure ⟨_,rfl,"set_iterator",_,⟨_,Heap.get?_push_size _ rfl,rfl⟩,si_next.lookup,q _ _ d _ _ _ es.size ⟨walkB (t:=t) (es:=es) (ep:=ep) (a:=a) (ps:=ps) (tp:=s.heap.objs.size) hh ?_ ?_ g4 hp,hl,⟨⟨_,Heap.get?_push_size _ rfl,rfl,rfl⟩,⟨o,Heap.get?_push_of_some _ (Heap.get?_push_of_some _ g1),g2,g3⟩,_,_,Heap.get?_push_of_some _ (Heap.get?_push_size _ rfl),rfl⟩,?_,?_,fun b o e=>Heap.get?_push_of_some _ (Heap.get?_push_of_some _ e),?_⟩⟩
  ·exact fun z=>absurd hlt (by rw[z];exact Nat.not_lt.mpr (by show s.heap.objs.size≤_;rw[show (Heap.push s.heap _).objs.size=s.heap.objs.size+1 from Heap.size_push ..];exact Nat.le_succ _))
  ·exact fun z=>absurd (Nat.lt_succ_self s.heap.objs.size) (by rw[show s.heap.objs.size.succ=(Heap.push s.heap _).objs.size from (Heap.size_push ..).symm,← z];exact Nat.lt_irrefl _)
  ·intro b hb
   simp only[List.mem_cons,List.not_mem_nil,or_false]at hb
   rcases hb with rfl|rfl|rfl
   ·exact .inr (by show s.heap.objs.size≤_;rw[show (Heap.push s.heap _).objs.size=s.heap.objs.size+1 from Heap.size_push ..];exact Nat.le_succ _)
   ·exact .inr (Nat.le_refl _)
   ·exact .inl rfl
  ·show s.heap.objs.size≤_
   rw[show (Heap.push s.heap _).objs.size=s.heap.objs.size+1 from Heap.size_push ..]
   exact Nat.le_succ _
  ·intro acc hacc
   have hps:ps.length=es.size:=by have:=hp.length_eq;rwa [List.length_range]at this
   have e:=jY hacc (L:=ps.map fun p=>((es[p]?).map (·.2)).getD .none) (by rw[List.length_map,hps]) fun j v ⟨p,h1,h2⟩=>by rw[List.getElem?_map,h1,Option.map_some,h2];rfl
   rw[e]
   have pm:(ps.map fun p=>((es[p]?).map (·.2)).getD .none).Perm (es.toList.map (·.2)):=by
    refine (hp.map _).trans ?_
    have:(List.range es.size).map (fun p=>((es[p]?).map (·.2)).getD .none)=es.toList.map (·.2):=by
     refine List.ext_getElem (by simp) fun i h1 h2=>?_
     have:i<es.size:=by simpa using h2
     simp[this]
    rw[this]
   obtain⟨m1,a1,a2⟩:=fP pm g7
   exact⟨m1,a1,a2.trans g8⟩
 ·apply wpAny_bind
  refine wpAny_pure ?_
  apply wpAny_bind
  refine wpAny_setEpoch_of g1 g3 g4 ?_
  apply wpAny_bind
  refine wpAny_newObj_type ?_
  have ne:a≠s.heap.objs.size:=Nat.ne_of_lt hlt
  have fo:∀ b∈[s.heap.objs.size,a],b=a∨s.heap.objs.size≤b:=by
   intro b hb
   simp only[List.mem_cons,List.not_mem_nil,or_false]at hb
   rcases hb with rfl|rfl
   ·exact .inr (Nat.le_refl _)
   ·exact .inl rfl
  have raw:RawS (s.heap.push { cls:=.type "set_iterator",data:=.fields #[rawInt 0,rawInt 0,.ref a,rawInt es.size,rawInt ep] }) a es ep t:=⟨o,Heap.get?_push_of_some _ g1,g2,g3⟩
  cases hb:byT w with
  | true=>
   refine wpAny_pure ⟨_,rfl,"set_iterator",_,⟨_,Heap.get?_push_size _ rfl,rfl⟩,si_next.lookup,q _ _ s.drawn _ _ _ es.size ⟨walkA (t:=t) (es:=es) (ep:=ep) (a:=a) hh ne g4 hb,hl,⟨⟨_,Heap.get?_push_size _ rfl,rfl,rfl⟩,raw⟩,fo,Nat.le_refl _,fun b o e=>Heap.get?_push_of_some _ e,fun acc hacc=>?_⟩⟩
   have hp:=iw (w.params.setOrder a ep) es
   have e:=jY hacc (L:=(pickOrder (w.params.setOrder a ep) es).toList.map (·.2)) (by rw[List.length_map,hp.length_eq,Array.length_toList]) fun j v hv=>by rw[List.getElem?_map,Array.getElem?_toList];exact hv
   rw[e]
   obtain⟨m1,a1,a2⟩:=fP (hp.map (·.2)) g7
   exact⟨m1,a1,a2.trans g8⟩
  | false=>
   have hd:(!t.plain&&decide (es.size > 1))=false:=by
    have z:¬ (!byT w&&(!t.plain&&decide (es.size > 1)))=true:=z
    rw[hb]at z
    simpa using z
   have hg:Good t true:=by have:=g5;rw[hb]at this;exact this
   refine wpAny_pure ⟨_,rfl,"set_iterator",_,⟨_,Heap.get?_push_size _ rfl,rfl⟩,si_next.lookup,q _ _ s.drawn _ _ _ es.size ⟨walkC (t:=t) (es:=es) (ep:=ep) (a:=a) hh ne g4 hb hd hg,hl,⟨Nat.zero_le _,⟨_,Heap.get?_push_size _ rfl,rfl,rfl⟩,raw⟩,fo,Nat.le_refl _,fun b o e=>Heap.get?_push_of_some _ e,fun acc hacc=>?_⟩⟩
   have e:=jY hacc (L:=es.toList.map (·.2)) (by rw[List.length_map,Array.length_toList]) fun j v hv=>by rw[List.getElem?_map,Array.getElem?_toList];exact hv
   rw[e]
   exact⟨ms,g7,g8⟩
end
section
variable {prog : Program}{w : World}{A : Around}{E : Value → Shared → Prop}{s : Shared}{a : Addr}{S : List Int}
theorem t0 {Q:Bool→Shared→Prop}(T:s.TypeIs (.ref a) "set")(q:Q false s):wpAny (model prog w) A (Builtin.List.listLengthHint (.ref a)) Q E s:=by
 unfold Builtin.List.listLengthHint
 apply wpAny_bind
 refine wpAny_specialOf T PySem.F.slot_set_len.lookup ?_
 generalize hid:("set.__len__":String)=id0
 wp_delta
 rw[show splitId id0=some ("set","__len__") from by subst hid;decide +kernel]
 subst hid
 apply wpAny_bind
 refine wpAny_isInstance (T:="set") (b:=true) T sub_set_self ?_
 refine wpAny_ite_split (fun z=>absurd z (by decide)) (fun _=>?_)
 refine wpAny_ite_split (fun _=>?_) (fun z=>absurd (by decide +kernel) z)
 apply wpAny_bind
 exact wpAny_typeOf T (wpAny_pure q)
theorem pC {R:Result→Shared→Prop}(hh:A.handled=none)(hS:SetI prog w s.heap a S)(hb:S.length<scanBound)(D:Addr)(hDa:D≠a)(res:Value)(c₀:Nat)(hD:s.heap.get? D=some { cls:=.type "list",data:=.seq #[] c₀ })
  (hR:∀ h' tk d acc c ms,(∀ b o,b≠D→s.heap.get? b=some o→h'.get? b=some o)→h'.get? D=some { cls:=.type "list",dict:=none,data:=.seq acc c,slots:=#[] }→IntsAre acc.toList ms→ms.Perm S→R (.ok (.ret res)) { s with heap:=h',toks:=tk,drawn:=d }):
  wpAny (model prog w) A.in1 (Builtin.List.listExtendWith (.ref D) (.ref a) res) (fun fin s'=>match fin with|.done f=>R (.ok f) s'|.again c'=>c'.quiet=true∧codeAny (model prog w) A c' R s') (fun e s'=>R (.error e) s') s:=by
 unfold Builtin.List.listExtendWith
 apply wpAny_bind
 refine wpAny_typeOf (T:="set") hS.ty ?_
 have n1:Builtin.List.listSameRef (.ref D) (.ref a)=false:=by simp[Builtin.List.listSameRef,hDa]
 have n2:(Value.type "set"==Value.type "list")=false:=by decide
 have n3:(Value.type "set"==Value.type "tuple")=false:=by decide
 simp only[n1,n2,n3,Bool.or_false,Bool.false_eq_true,if_false]
 apply wpAny_bind
 refine sZ (A:=A.in1) hh hS hb fun I h1 d fp P St n tr=>?_
 have hD1:=tr.keep D _ hD
 have lt:=Heap.lt_size hD
 have nI:D≠I:=Nat.ne_of_lt (Nat.lt_of_lt_of_le lt tr.new)
 have nf:D∉fp:=fun z=>by
  rcases tr.fpo D z with e|e
  ·exact hDa e
  ·exact absurd lt (Nat.not_lt.mpr e)
 have key:∀ (h:Heap)(c₁ tk:Nat),St 0 h→(∀ b o,b≠D→s.heap.get? b=some o→h.get? b=some o)→h.get? D=some { cls:=.type "list",data:=.seq #[] c₁ }→
   codeAny (model prog w) A (.builtin "list.extend.loop" ⟨[.ref D,.ref I,res],[]⟩) R { s with heap:=h,toks:=tk,drawn:=d }:=by
  intro h c₁ tk st hk hD2
  have hn:n≤sizeLine:=by rw[tr.len];exact fits_of_scanBound hb
  refine codeAny_extend_loopS tr.walk.toS hn D nf res n 0 _ #[] c₁ rfl (Nat.zero_le _) st hD2 (ItemsOf.nil _) fun s' acc c hm hD' hacc=>?_
  obtain⟨ms,i1,i2⟩:=tr.all acc hacc
  rw[Moved.eq_with hm]
  refine hR s'.heap s'.toks d acc c ms (fun b o hb e=>hm.heap b o (fun z=>?_) (hk b o hb e)) hD' i1 i2
  rcases List.mem_cons.mp z with e'|z
  ·exact hb e'
  ·rw[List.mem_singleton.mp z]at e
   exact absurd (Heap.lt_size e) (Nat.not_lt.mpr tr.new)
 apply wpAny_bind
 apply wpAny_holding
 refine t0 (s:={ s with heap:=h1,drawn:=d }) (SetI.ty (prog:=prog) (w:=w) (S:=S) (hS.to fun o e=>tr.keep a o e)) ?_
 refine wpAny_ite_split (fun _=>?_) (fun _=>wpAny_pure ⟨plainId_quiet PySem.F.plain_extend_loop _,key _ c₀ _ tr.st (fun b o _ e=>tr.keep b o e) hD1⟩)
 apply wpAny_bind
 apply wpAny_rule
 apply wpAny_bind
 show wpAny _ _ (updateSeq D (·.push .none) >>= fun _=>updateSeq D (·.pop)) _ _ _
 apply wpAny_bind
 refine wpAny_updateSeq hD1 rfl ?_
 have hD2:=Heap.get?_update_self (Obj.mapSeq (·.push Value.none)) hD1 rfl
 refine wpAny_updateSeq (hz:=by seq_fits) hD2 rfl ?_
 have hD3:=Heap.get?_update_self (Obj.mapSeq (·.pop)) hD2 rfl
 have oth:∀ b,b≠D→∀ o,h1.get? b=some o→((h1.update D (Obj.mapSeq (·.push Value.none))).update D (Obj.mapSeq (·.pop))).get? b=some o:=fun b hb o e=>
  (Heap.get?_update_other _ _ (Ne.symm hb)).trans ((Heap.get?_update_other _ _ (Ne.symm hb)).trans e)
 refine wpAny_pure ⟨plainId_quiet PySem.F.plain_extend_loop _,key _ _ _ (tr.walk.frame 0 _ _ tr.st fun b hb o e=>oth b (fun z=>nf (z▸hb)) o e) (fun b o hb e=>oth b hb o (tr.keep b o e)) hD3⟩
theorem n5 {R:List Value→Shared→Prop}(hh:A.handled=none)(hS:SetI prog w s.heap a S)(hb:S.length<scanBound)
  (q:∀ h' tk d acc ms,(∀ b o,s.heap.get? b=some o→h'.get? b=some o)→IntsAre acc ms→ms.Perm S→R acc { s with heap:=h',toks:=tk,drawn:=d }):wpAny (model prog w) A (collect (.ref a)) R E s:=by
 have lt:a<s.heap.objs.size:=let ⟨o,_,_,_,_,g,_⟩:=hS;Heap.lt_size g
 unfold collect
 apply wpAny_bind
 apply wpAny_runValue
 apply codeAny_builtin entry_proto_collect'
 rw[Around.under_plainId PySem.F.plain_proto_collect _]
 show wpAny _ A.in1 (newList [] >>= fun l=>again (.builtin "list.__iadd__" ⟨[l,.ref a],[]⟩)) _ _ s
 apply wpAny_bind
 refine wpAny_newObj_type ?_
 refine wpAny_pure ⟨plainId_quiet PySem.F.plain_list_iadd _,?_⟩
 apply codeAny_builtin entry_list_iadd'
 rw[Around.under_plainId PySem.F.plain_list_iadd _]
 have hD:(s.heap.push { cls:=.type "list",data:=.seq ([]:List Value).toArray }).get? s.heap.objs.size=some { cls:=.type "list",data:=.seq #[] }:=Heap.get?_push_size _ rfl
 show wpAny _ A.in1 (Builtin.List.listExtendWith (.ref s.heap.objs.size) (.ref a) (.ref s.heap.objs.size)) _ _ _
 have key:=pC (A:=A) (s:={ s with heap:=s.heap.push { cls:=.type "list",data:=.seq ([]:List Value).toArray } }) (S:=S)
  (R:=fun (r:Result) (s':Shared)=>∃ h' tk d acc c ms,r=.ok (.ret (.ref s.heap.objs.size))∧s'={ s with heap:=h',toks:=tk,drawn:=d }∧(∀ b o,s.heap.get? b=some o→h'.get? b=some o)∧h'.get? s.heap.objs.size=some { cls:=.type "list",dict:=none,data:=.seq acc c,slots:=#[] }∧IntsAre acc.toList ms∧ms.Perm S)
  hh (hS.to fun o e=>Heap.get?_push_of_some _ e) hb s.heap.objs.size (Nat.ne_of_gt lt) (.ref s.heap.objs.size) 0 hD
  (fun h' tk d acc c ms hk h1 h2 h3=>⟨h',tk,d,acc,c,ms,rfl,rfl,fun b o e=>hk b o (Nat.ne_of_lt (Heap.lt_size e)) (Heap.get?_push_of_some _ e),h1,h2,h3⟩)
 refine wpAny_mono key (fun fin s' x=>?_) fun e s' x=>?_
 ·cases fin with
  | done f=>
   obtain⟨h',tk,d,acc,c,ms,e,rfl,hk,h1,h2,h3⟩:=x
   cases e
   show wpAny _ A (load s.heap.objs.size >>= _) _ _ _
   apply wpAny_bind
   refine wpAny_load h1 ?_
   exact wpAny_pure (q h' tk d acc.toList ms hk h2 h3)
  | again c₁=>
   refine⟨x.1,codeAny_mono x.2 fun r s₂ y=>?_⟩
   obtain⟨h',tk,d,acc,c,ms,rfl,rfl,hk,h1,h2,h3⟩:=y
   show wpAny _ A (load s.heap.objs.size >>= _) _ _ _
   apply wpAny_bind
   refine wpAny_load h1 ?_
   exact wpAny_pure (q h' tk d acc.toList ms hk h2 h3)
 ·obtain⟨_,_,_,_,_,_,e',_⟩:=x
  cases e'
end
end L2.Sk
namespace L2
open PySem PySem.Spec PySem.Calls PyProof.Rows L2.Sk
theorem Inv.drawn {X:Cx}{pins:List (Addr×Obj)}{σ:St}{H:Hp}{s:Shared} (I:Inv X pins σ H s) (d:Drawn):Inv X pins σ H { s with drawn:=d }:=⟨I.ok,I.os,I.bare,I.base,I.loc,I.cell,I.free,I.freeC,I.pin,I.hok,I.len⟩
def uN (prog:Program)(w:World)(r:Addr)(S:List Int):HO:=.ext (fun h=>SetI prog w h r S)
namespace Sk
theorem ul (ns:List Int):∀ S:List Int,S.Nodup→(ns.foldl dE S).Nodup∧(∀ k,k∈ns.foldl dE S ↔ k∈S∨k∈ns)∧((S++ns).Nodup→ns.foldl dE S=S++ns)∧(ns.foldl dE S).length≤S.length+ns.length:=by
 induction ns with
 | nil=>intro S h;exact⟨h,fun k=>by simp,fun _=>by simp,by simp⟩
 | cons n ns ih=>
  intro S h
  have h1:(dE S n).Nodup:=by
   unfold dE
   split
   ·exact h
   ·rename_i hn
    exact List.nodup_append.mpr ⟨h,by simp,fun a ha b hb e=>hn (by rw[List.mem_singleton.mp hb]at e;exact e▸ha)⟩
  obtain⟨a,b,c,d⟩:=ih (dE S n) h1
  rw[List.foldl_cons]
  refine⟨a,fun k=>?_,fun hn=>?_,?_⟩
  ·rw[b k]
   unfold dE
   split
   ·rename_i hn
    rw[List.mem_cons]
    constructor
    ·rintro (z|z)
     ·exact .inl z
     ·exact .inr (.inr z)
    ·rintro (z|z|z)
     ·exact .inl z
     ·exact .inl (z▸hn)
     ·exact .inr z
   ·rw[List.mem_append,List.mem_singleton,List.mem_cons,or_assoc]
  ·have hm:¬ n∈S:=fun z=>(List.nodup_append.mp hn).2.2 n z n (List.mem_cons_self ..) rfl
   have e:dE S n=S++[n]:=if_neg hm
   rw[e]at c ⊢
   rw[c (by simpa using hn)]
   simp
  ·have:(dE S n).length≤S.length+1:=by
    unfold dE
    split
    ·omega
    ·rw[List.length_append];exact Nat.le_refl _
   rw[List.length_cons]
   omega
theorem dedup_len (ns:List Int):(gL ns).length≤ns.length:=by have:=(ul ns [] List.nodup_nil).2.2.2;unfold gL;simpa using this
end Sk
section
variable {X : Cx}
theorem qt (hc:X.calm=true):CallR X (.type "set") (fun xs H Q=>∃ (l:Addr)(ns:List Int),xs=[.ref l]∧H l=some (.lst (ns.map V.int))∧ns.length<4000∧∀ r,H r=none→Q (.ref r) (upd H r (uN X.prog X.w r (gL ns)))):=by
 intro pins s σ H xs us Q I r h
 obtain⟨l,ns,rfl,hH,hlt,q⟩:=h
 obtain⟨u,rfl,rx⟩:=dH r
 cases rx
 obtain⟨z',its,n,r,hl,e⟩:=I.lstM hH
 have hI:=jo r
 have hlen:its.length=ns.length:=by rw[← r.length,List.length_map]
 have sb:scanBound=4096:=rfl
 refine kK (items:=its.toArray) (ns:=ns) (I.ok.hd hc) ⟨_,e,rfl,n,rfl⟩ (by simpa using hI) (by simp;omega) fun h' tk hS keep=>?_
 refine⟨.ref s.heap.objs.size,_,I.laid (t':=tk) keep (Nat.le_refl _) (show ObjOk X.prog X.w _ _ _ (uN X.prog X.w s.heap.objs.size (gL ns)) from ⟨hS,let ⟨o,_,_,_,_,g,_⟩:=hS;⟨o,g⟩,fun h1 h2 x k=>x.to k⟩),rfl,q _ (I.hok.fresh (Nat.le_refl _))⟩
theorem ja (hc:X.calm=true):CallR X (.builtin "sorted") (fun xs H Q=>∃ (r:Addr)(S:List Int),xs=[.ref r]∧H r=some (uN X.prog X.w r S)∧S.length<64∧∀ ns':List Int,ns'.Perm S→ns'.Pairwise (·≤·)→NewQ H (.lst (ns'.map V.int)) Q):=by
 intro pins s σ H xs us Q I r h
 obtain⟨a,S,rfl,hH,h64,q⟩:=h
 obtain⟨u,rfl,rx⟩:=dH r
 cases rx
 have hS:SetI X.prog X.w s.heap a S:=(I.hok a _ hH).1
 have sb:scanBound=4096:=rfl
 refine call_function_entry kind_sorted plain_sorted entry_sorted (args_sorted1 _) ?_
 unfold Builtin.«sorted»
 refine wpAny_bind (m:=checkCount "sorted" 1 1 _) (wpAny_pure ?_)
 refine wpAny_bind (n5 (A:=X.A.in1) (I.ok.hd hc) hS (by omega) fun h' tk d acc ms keep hI hp=>?_)
 have hlen:acc.length<64:=by rw[d9 hI,hp.length_eq];exact h64
 refine wpAny_bind (wpAny_newList ?_ (Nat.le_trans (Nat.le_of_lt hlen) (by decide)))
 have hoL:(h'.push (seqObj "list" acc.toArray 0)).get? h'.objs.size=some (seqObj "list" acc.toArray 0):=Heap.get?_push_size _ rfl
 refine wpAny_bind (wpAny_holding (wpAny_call_entry slot_list_sort ⟨_,hoL,rfl⟩ entry_list_sort (list_sort_tree hoL hI hlen fun out ns' a1 a2 a3=>⟨_,rfl,?_⟩) (args_list_sort _)))
 refine wpAny_pure ⟨_,rfl,?_⟩
 have keep':∀ b u,h'.get? b=some u→(sortedHeap (h'.push (seqObj "list" acc.toArray 0)) h'.objs.size acc out).get? b=some u:=fun b u h1=>by
  have h2:=Heap.lt_size h1
  rw[sortedHeap_old (h:=h'.push (seqObj "list" acc.toArray 0)) (Nat.ne_of_lt h2) (by rw[size_push'];exact Nat.lt_succ_of_lt h2)]
  exact Heap.get?_push_of_some _ h1
 obtain⟨e,hat⟩:=sortedHeap_at (out:=out) hoL
 have hval:Vals (ns'.map V.int) out.toList:=iG a1
 have a4:=a2.trans hp
 have hln:(ns'.map V.int).length≤sizeLine:=by
  rw[List.length_map,a4.length_eq]
  exact Nat.le_trans (Nat.le_of_lt h64) (by decide)
 have I1:=(I.kept (t':=tk) keep).drawn d
 refine⟨.ref h'.objs.size,_,I1.laid (t':=tk) keep' (Nat.le_refl _) (show ObjOk X.prog X.w _ _ _ (.lst (ns'.map V.int)) from ⟨hln,out.toList,e,hval,?_⟩),rfl,(q ns' a4 a3).at (I1.hok.fresh (Nat.le_refl _))⟩
 simpa using hat
end
end L2
namespace L2
open PySem PySem.Spec PyProof.Rows
section
variable {X : Cx}
def qx (P:Program)(w:World)(K:PySem.W.Frag)(mg:Str→Option Value)(base:Heap)(k:Nat)(x:Str)(ps:List Str)(dvs:List V)(sp:Sp):Prop:=
 ∃ f fd ds,mg x=some (.ref f)∧PySem.W.keepIn K (.ref f)=true∧Binds K fd ps ds∧Vals dvs ds∧FnOk P w K mg base (CXE P w) k f fd ps sp
def uH (sp:Sp)(dvs:List V)(W:St→XK)(t:TA):TE:=fun σ H Q=>t σ H fun vs H1=>sp (vs++dvs) H1 Q (W σ)
theorem kY {k:Nat}{x:Str}{ps:List Str}{dvs:List V}{sp:Sp}{W:St→XK}{t:TA}{e:Expr}{es:List Expr}{p pos:Pos} (hx:fB X W) (D:qx X.prog X.w X.K X.mg X.base k x ps dvs sp) (hr:Room k X.A) (hg:Gl X x)
  (ha:PA X (e::es) t) (hdb:(x==("__debug__":Str))=false:=by decide) (he:starEach (e::es) X.env=(false,eval e X.env)::starEach es X.env:=by rfl) (hpl:(backTo pos (starEach es X.env)).any (·.1)=false:=by rfl):
  PE X (.Call (.Name x p) (e::es) [] pos) (uH sp dvs W t):=by
 obtain⟨f,fd,ds,hm,hk,hb,hd,F⟩:=D
 intro pins s σ H Q I h
 refine wpAny_Call_Name_kw (cx I hg hm ?_ hdb)
 refine PySem.W.callWith_K (h₀:=X.base) I.ok.mod.kin hk (thn (ha pos pins s σ H _ I h) fun us s1 ⟨vs,H1,I1,r,q⟩=>⟨I1.kIn,?_⟩) he hpl
 exact nA F hr hb hd hx I1 r q
end
section
variable {prog : Program}{w : World}{A : Around}{E : Value → Shared → Prop}{s : Shared}
end
section
variable {prog : Program}{w : World}{A : Around}{E : Value → Shared → Prop}{s : Shared}
end
section
variable {js : List Nat}{te : TE}{σ : St}{H : Hp}{F : Addr → Hp → Prop}
end
def gh (lo st:Int)(n:Nat):List Nat:=sliceRange (sliceBounds (some lo) none (some st) n).1 (sliceBounds (some lo) none (some st) n).2.1 (sliceBounds (some lo) none (some st) n).2.2
theorem kN {xs:List V}{us:List Value} (h:Vals xs us):∀ is:List Nat,Vals (is.filterMap fun i=>xs[i]?) (is.filterMap fun i=>us[i]?)
 | []=>.nil
 | i::is=>by
  have ih:=kN h is
  have hl:=h.length
  by_cases c:i<xs.length
  ·obtain⟨u,hu,r⟩:=h.get (List.getElem?_eq_getElem c)
   rw[List.filterMap_cons,List.filterMap_cons,List.getElem?_eq_getElem c,hu]
   exact .cons r ih
  ·rw[List.filterMap_cons,List.filterMap_cons,List.getElem?_eq_none (by omega),List.getElem?_eq_none (by omega)]
   exact ih
def tStep (K:PySem.W.Frag)(te:TE)(tl ts:TO):TE:=fun σ H Q=>te σ H fun x H1=>tl σ H1 fun l H2=>ts σ H2 fun o H3=>∃ lo st a xs,l=some lo∧o=some st∧st≠0∧x=.ref a∧SqL K H3 a xs∧((gh lo st xs.length).filterMap fun i=>xs[i]?).length≤sizeLine∧NewQ H3 (.lst ((gh lo st xs.length).filterMap fun i=>xs[i]?)) Q
theorem uX {X:Cx}(K:PySem.W.Frag){e lo st:Expr}{te:TE}{tl ts:TO}{pos p2:Pos} (he:PE X e te) (hl:PO X (some lo) tl) (hs:PO X (some st) ts) (hK:X.K=K:=by rfl):PE X (.Subscript e (.Slice (some lo) none (some st) p2) pos) (tStep K te tl ts):=by
 intro pins s σ H Q I h
 subst hK
 refine Subscript_ (thn (he pins s σ H _ I h) fun v s1 ⟨x,H1,I1,r1,q1⟩=>?_)
 refine wpAny_Slice (thn (hl pins s1 σ H1 _ I1 q1) fun vl s2 ⟨l,H2,I2,pl',q2⟩=>?_)
 rw[evalPart_none]
 refine wpAny_pure (thn (hs pins s2 σ H2 _ I2 q2) fun vs s3 ⟨o,H3,I3,ps,q3⟩=>?_)
 obtain⟨lo',st',a,xs,rfl,rfl,h0,rfl,hx,hz',q⟩:=q3
 cases r1
 have I4:Inv X pins σ H3 { s3 with heap:=s3.heap.push { cls:=.type "slice",data:=.fields #[vl,.none,vs] } }:=I3.kept (t':=s3.toks) fun b ob q=>Heap.get?_push_of_some _ q
 obtain⟨its,r,pl,hz⟩:=I4.list hx
 have hlen:its.toArray.size=xs.length:=by rw[List.size_toArray];exact r.length.symm
 show wpAny (model X.prog X.w) X.A (subscriptTail e (.Slice (some lo) none (some st) p2) (.ref a) (.ref s3.heap.objs.size)) (EP X pins σ Q) X.xe { s3 with heap:=s3.heap.push { cls:=.type "slice",data:=.fields #[vl,.none,vs] } }
 refine tail_any (ops:=[.ref a,.ref s3.heap.objs.size]) pl.isList.typeIs list_getitem_lookup ?_ (by with_unfolding_all rfl)
 refine wpAny_getItem_list_slice pl.isList (Heap.IsSliceOf.new ..) pl' .none ps (fun z=>h0 (by injection z)) ?_ (by rw[hlen];exact hz)
 have ep:slicePick its.toArray (some lo') none (some st')=((gh lo' st' xs.length).filterMap fun i=>its[i]?).toArray:=by
  unfold slicePick gh
  rw[hlen]
  simp
 rw[ep]
 refine⟨.ref _,_,I4.laid (t':=s3.toks) (o:=.lst ((gh lo' st' xs.length).filterMap fun i=>xs[i]?)) (fun b ob q=>Heap.get?_push_of_some _ q) (Nat.le_refl _) ?_,rfl,q.at (I4.hok.fresh (Nat.le_refl _))⟩
 exact⟨hz',_,0,kN r _,Heap.get?_push_size _ rfl⟩
section
variable {X : Cx}
end
section
variable {X : Cx}{elt tg iter : Expr}{ifs : List Expr}{scope : Scope}{pos : Pos}{nT : Nat}{js : List Nat}{N' : List Str}{g : TG}{tt : TT}{te : TE}
end
section
variable {X : Cx}{α : Type} [DecidableEq α] {R : Hp → V → α → Prop}{k : Nat}
def sw (R:Hp→V→α→Prop)(H:Hp)(x:V)(as:List (Key×α)):Prop:=∃ d kvs,x=.ref d∧H d=some (.dK kvs)∧Paired (fun (kv:Key×V) (a:Key×α)=>kv.1=a.1∧R H kv.2 a.2) kvs as
def look (bs:List (Key×α))(k:Key):Option α:=(bs.find? fun e=>decide (e.1=k)).map (·.2)
def iM (as bs:List (Key×α)):Bool:=(as.length==bs.length)&&as.all fun d=>decide (look bs d.1=some d.2)
theorem oj {H:Hp}(k:Key):∀ {kb:List (Key×V)}{vb:List (Key×Value)}{bs:List (Key×α)},KV kb vb→Paired (fun (kv:Key×V) (a:Key×α)=>kv.1=a.1∧R H kv.2 a.2) kb bs→
  (valueAt vb k=none∧look bs k=none)∨∃ x y b,valueAt vb k=some y∧look bs k=some b∧RelV x y∧R H x b
 | [],_,_,.nil,.nil=>.inl ⟨rfl,rfl⟩
 | p::kb,_,_,.cons (b:=q) ⟨e1,r1⟩ r,.cons (b:=c) ⟨e2,r2⟩ r'=>by
  by_cases h:p.1=k
  ·refine .inr ⟨p.2,q.2,c.2,?_,?_,r1,r2⟩
   ·unfold valueAt
    rw[List.find?_cons,decide_eq_true (show q.1=k by rw[← e1,h])]
    rfl
   ·unfold look
    rw[List.find?_cons,decide_eq_true (show c.1=k by rw[← e2,h])]
    rfl
  ·have ih:=oj k r r'
   unfold valueAt look at ih ⊢
   rw[List.find?_cons,List.find?_cons,decide_eq_false (show ¬ q.1=k by rw[← e1];exact h),decide_eq_false (show ¬ c.1=k by rw[← e2];exact h)]
   exact ih
theorem qZ {A:Around}{pins:List (Addr×Obj)}{s:Shared}{σ:St}{H:Hp} (h:EqK X.K R k) (I:Inv X pins σ H s) (hu:A.units+k<cLine) {kb:List (Key×V)}{vb:List (Key×Value)}{bs:List (Key×α)} (relb:KV kb vb) (pb:Paired (fun (kv:Key×V) (a:Key×α)=>kv.1=a.1∧R H kv.2 a.2) kb bs):
  ∀ {ka:List (Key×V)}{va:List (Key×Value)}{as:List (Key×α)},KV ka va→Paired (fun (kv:Key×V) (a:Key×α)=>kv.1=a.1∧R H kv.2 a.2) ka as→PySem.W.KeqHits A s vb va (as.all fun d=>decide (look bs d.1=some d.2))
 | [],_,_,.nil,.nil=>.nil
 | p::ka,_,_,.cons (b:=q) ⟨e1,r1⟩ r,.cons (b:=c) ⟨e2,r2⟩ r'=>by
  have ih:=qZ h I hu relb pb r r'
  rw[List.all_cons]
  obtain⟨qk,qv⟩:=q
  have e1:p.1=qk:=e1
  rcases oj (R:=R) qk relb pb with⟨h1,h2⟩|⟨x,y,b,h1,h2,h3,h4⟩
  ·rw[show decide (look bs c.1=some c.2)=false from decide_eq_false (by rw[← e2,e1,h2];exact fun z=>nomatch z),Bool.false_and]
   exact .miss h1
  ·have he:=h.eq X A pins s σ H p.2 x qv y c.2 b rfl I r1 h3 r2 h4 hu
   have e3:decide (look bs c.1=some c.2)=decide (c.2=b):=by
    rw[← e2,e1,h2]
    by_cases z:c.2=b
    ·rw[decide_eq_true z,decide_eq_true (by rw[z])]
    ·rw[decide_eq_false z,decide_eq_false (fun w=>z (Option.some.inj w).symm)]
   rw[e3]
   exact .hit h1 he ih
theorem rP {ka kb:List (Key×V)}{va vb:List (Key×Value)}{as bs:List (Key×α)}{H:Hp} (r1:KV ka va) (p1:Paired (fun (kv:Key×V) (a:Key×α)=>kv.1=a.1∧R H kv.2 a.2) ka as) (r2:KV kb vb) (p2:Paired (fun (kv:Key×V) (a:Key×α)=>kv.1=a.1∧R H kv.2 a.2) kb bs):
  ((va.length==vb.length)&&as.all fun d=>decide (look bs d.1=some d.2))=iM as bs:=by
 unfold iM
 rw[← KV.length r1,← KV.length r2,Paired.length p1,Paired.length p2]
theorem op_neD (h:EqK X.K R k)(hu:X.A.units+(k+1)<cLine):OpR X (compareOp .NotEq) (fun x y H Q=>∃ as bs,sw R H x as∧sw R H y bs∧Q (.bl (!iM as bs)) H):=by
 intro pins s σ H x y v u Q I rx ry hw
 obtain⟨as,bs,⟨a,ka,rfl,ha,pa⟩,⟨b,kb,rfl,hb,pb⟩,q⟩:=hw
 cases rx
 cases ry
 obtain⟨_,la,va,ra,da⟩:=(show ObjOk X.prog X.w H s.heap a (.dK ka) from I.hok a _ ha)
 obtain⟨_,lb,vb,rb,db⟩:=(show ObjOk X.prog X.w H s.heap b (.dK kb) from I.hok b _ hb)
 refine PySem.W.keq_ne la lb da db (by omega) (fun _=>qZ (A:=X.A.in1) h I (by show X.A.units+1+k<cLine;omega) rb pb ra pa) ?_
 rw[rP ra pa rb pb]
 exact⟨.bl _,H,I,rfl,q⟩
theorem neDK (K:PySem.W.Frag)(hK:EqK K R k)(hu:X.A.units+(k+1)<cLine)(h:X.K=K:=by rfl):OpR X (compareOp .NotEq) (fun x y H Q=>∃ as bs,sw R H x as∧sw R H y bs∧Q (.bl (!iM as bs)) H):=by
 subst h;exact op_neD hK hu
end
def Iti (o:Obj)(d:Addr):It:=
 ⟨fun i H=>∃ kvs kv,H d=some (.frz o (.dK kvs))∧kvs[i]?=some kv,fun i H v H'=>∃ T,H T=none∧v=.ref T∧∃ kv:Key×V,(∀ kvs,H d=some (.frz o (.dK kvs))→kvs[i]?=some kv)∧H'=upd H T (.tup [kV kv.1,kv.2]),fun i H=>∃ kvs,H d=some (.frz o (.dK kvs))∧kvs.length≤i⟩
def tnIt (it d:Addr)(n ep:Nat)(i:Nat)(h:Heap):Prop:=∃ ok ov,IsItemIter h it d i n ep ok ov
theorem px {P:Program}{w:World}{K:PySem.W.Frag}{elts:List Expr}{x1:Nat}{tpos:Pos} (it d:Addr) (o:Obj) {es:Array DictEntry}{ep:Nat} (ed:o.data=.dict es ep):p9 P w K (.Tuple elts x1 tpos) (Iti o d) [it] it (tnIt it d es.size ep) where
 mem:=by simp
 obj:=fun i h st b hb=>by
  have e:b=it:=by simpa using hb
  subst e
  obtain⟨_,_,st⟩:=st
  exact⟨_,st,fun v z=>by cases z⟩
 keep:=fun i h h' ⟨ok,ov,st⟩ k=>⟨ok,ov,k it (by simp) _ st⟩
 item:=by
  intro X hP hw hK hc i pins s σ H E I hf st hg
  subst hP hw hK
  obtain⟨kvs,kv,hd,hx⟩:=hg
  obtain⟨ok,ov,st⟩:=st
  obtain⟨vs,r,da,hl⟩:=I.frd hd ed
  obtain⟨q,hq,hr⟩:=Paired.at r hx
  rw[← hl]at st
  refine wpAny_pyNext_items_item st da (k:=q.1) (v:=q.2) hq fun key h' hkey a1 a2 a3 a4=>?_
  refine⟨_,rfl,wpAny_letOwnedTupleGo_items (s:={ s with heap:=h' }) a1 fun h'' b1 sb=>?_⟩
  have hT:H s.heap.objs.size=none:=I.hok.fresh (Nat.le_refl _)
  have zne:it≠s.heap.objs.size:=fun z=>absurd (Heap.lt_size st) (by rw[z];exact Nat.lt_irrefl _)
  have kk:∀ c u,c∉[it]→s.heap.get? c=some u→h''.get? c=some u:=fun c u hc z=>by
   have hc:c≠it:=by simpa using hc
   exact sb.extBut _ _ hc (a4 c u hc z)
  have I1:Inv X pins σ H { s with heap:=h'' }:=I.turnedN (t':=s.toks) (ch:=[it]) hf kk
  have I2:Inv X pins σ (upd H s.heap.objs.size (.tup [kV kv.1,kv.2])) { s with heap:=h'' }:=by
   refine I1.track (I.fpOk (Nat.le_refl _) hT) I.sz ⟨by show 2≤sizeLine;decide,[key,q.2],.cons ?_ (.cons hr.2 .nil),?_⟩
   ·rw[hr.1];exact jm hkey
   ·exact⟨_,sb.extBut _ _ (Ne.symm zne) a2,rfl,_,rfl⟩
  refine⟨.ref s.heap.objs.size,_,I2,rfl,⟨_,hT,rfl,kv,fun kvs' hd'=>?_,rfl⟩,⟨key,q.2,?_⟩,fun c hc=>?_⟩
  ·rw[hd]at hd';cases hd';exact hx
  ·rw[hl]at b1;exact b1
  ·have hc:c=it:=by simpa using hc
   subst hc
   rw[aa zne]
   exact (hf c (by simp)).1
 done:=by
  intro X hP hw hK hc i pins s σ H E I hf st hg
  subst hP hw hK
  obtain⟨kvs,hd,hx⟩:=hg
  obtain⟨ok,ov,st⟩:=st
  obtain⟨vs,r,da,hl⟩:=I.frd hd ed
  obtain⟨f0,f1,f2,f3,f4,f5⟩:=hf it (by simp)
  rw[← hl]at st
  have:=KV.length r
  exact wpAny_pyNext_items_end (I.ok.hd hc) st da (List.getElem?_eq_none (by omega)) fun h' eb=>⟨rfl,I.turned (t':=s.toks) (fun b o hb e=>eb b o hb e) f0 f1 f3 f4 f5⟩
 self:=fun _ _ _ _ _ ⟨ok,ov,st⟩ h=>PySem.W.kcp_self st h
section
variable {X : Cx}{tg : Expr}
theorem tE {elts:List Expr}{x1:Nat}{tpos:Pos}{l:Expr}{tl:TE}{apos cpos:Pos} (hl:PE X l tl)
  (hbase:attributeBase l "items" X.env (eval l X.env)=eval l X.env:=by rfl) (hline:(apos.endLine==cpos.line)=true:=by rfl):PI X (.Tuple elts x1 tpos) (.Call (.Attribute l "items" apos) [] [] cpos) (iDX X Iti tl):=by
 intro pins s σ H R I h
 obtain⟨Q,hq,h⟩:=h
 refine wpAny_Call_method0_late hbase hline (thn (hl pins s σ H _ I hq) fun v s1 ⟨x,H1,I1,r1,q1⟩=>?_)
 obtain⟨d,kvs,e,hd,q⟩:=h x H1 q1
 subst e
 cases r1
 obtain⟨z,lo,vs,r,ob,es,ep,ho,c1,c2,c3,c4,c5⟩:=(show ObjOk X.prog X.w H1 s1.heap d (.dK kvs) from I1.hok d _ hd)
 have hsz:vs.length=es.size:=by rw[← c4.length];simp
 have da:s1.heap.DictAt (aM X.prog X.w) d vs ep:=⟨ob,es,ho,c1,c2,c3,c4,c5⟩
 refine⟨"dict","dict.items",F.plainAttrs_dict,F.slot_dict_items,F.type_dict_items,da.dictOf.typeIs,fun a e2=>?_,Calls.callWith_builtin rfl (PySem.evalArgs_none ?_)⟩
 ·cases e2
  exact⟨ob,ho,c1.2.1⟩
 refine call_meetsIn F.slot_dict_items da.dictOf.typeIs F.entry_dict_items (F.args_dict_items_1 _) (meets_dict_items (aM X.prog X.w) d lo) ⟨⟨vs,da.dictOf⟩,?_⟩
 have I2:=(I1.freeze hd ho).kept (t':=s1.toks) (h':=s1.heap.push { cls:=.type "dict_items",data:=.fields #[.ref d] }) fun b o e=>Heap.get?_push_of_some _ e
 show wpAny _ _ _ _ _ { s1 with heap:=s1.heap.push { cls:=.type "dict_items",data:=.fields #[.ref d] } }
 refine wpAny_pyIter_items (s:={ s1 with heap:=s1.heap.push { cls:=.type "dict_items",data:=.fields #[.ref d] } }) ⟨_,Heap.get?_push_size _ rfl,rfl,rfl⟩ (da.push _) ?_
 rw[hsz]
 refine⟨_,[(s1.heap.push { cls:=.type "dict_items",data:=.fields #[.ref d] }).objs.size],_,_,_,rfl,I2.kept (t':=s1.toks) fun b o e=>Heap.get?_push_of_some _ e,px _ d ob c2,⟨_,_,Heap.get?_push_size _ rfl⟩,fun b hb=>?_,q ob (I1.nf hd)⟩
 have e:b=(s1.heap.push { cls:=.type "dict_items",data:=.fields #[.ref d] }).objs.size:=by simpa using hb
 subst e
 exact I2.fpOk (Nat.le_refl _) (I2.hok.fresh (Nat.le_refl _))
end
theorem sC {K:PySem.W.Frag}{o:Obj}{d:Addr}{kvs:List (Key×V)}{i1 i2:Nat}{tb:TS}{D:fX}{σ:St}{H:Hp} (Pv:Nat→St→Hp→Prop) (h0:Pv 0 σ H) (hl:∀ i σ H,i≤kvs.length→Pv i σ H→H d=some (.frz o (.dK kvs)))
  (hs:∀ (i:Nat)(kv:Key×V)(T:Addr) σ H,kvs[i]?=some kv→Pv i σ H→H T=none→tb { D with nx:=Pv (i+1),ct:=Pv (i+1),bk:=D.nx } ((σ.set i1 (some (kV kv.1))).set i2 (some kv.2)) (upd H T (.tup [kV kv.1,kv.2]))) (hd:∀ σ H,Pv kvs.length σ H→D.nx σ H):
  ∃ W:Nat→Nat→St→Hp→Prop,(∃ m,W 0 m σ H)∧∀ i m σ H,W i m σ H→
   ((Iti o d).stop i H∧D.nx σ H)∨((Iti o d).go i H∧∃ N:St→Hp→Prop,(∀ σ' H',N σ' H'→∃ m',m'<m∧W (i+1) m' σ' H')∧∀ x H',(Iti o d).yld i H x H'→ql K 2 (dR (bg i1) (dR (bg i2) sB)) x σ H' fun σ2 H2=>tb { D with nx:=N,ct:=N,bk:=D.nx } σ2 H2):=by
 refine⟨fun i m σ H=>m=kvs.length - i∧i≤kvs.length∧Pv i σ H,⟨kvs.length,by simp,Nat.zero_le _,h0⟩,?_⟩
 rintro i m σ H ⟨rfl,hi,p⟩
 have q:=hl i σ H hi p
 by_cases hlt:i<kvs.length
 ·refine .inr ⟨⟨kvs,kvs[i],q,by simp[hlt]⟩,Pv (i+1),fun σ' H' p'=>⟨kvs.length - (i+1),by omega,rfl,hlt,p'⟩,fun v H' y=>?_⟩
  obtain⟨T,hT,rfl,kv,ex,rfl⟩:=y
  exact⟨T,[kV kv.1,kv.2],rfl,SqT.of a9,rfl,_,[kv.2],rfl,_,[],rfl,rfl,hs i kv T σ H (ex kvs q) p hT⟩
 ·have e:i=kvs.length:=by omega
  subst e
  exact .inl ⟨⟨kvs,q,Nat.le_refl _⟩,hd σ H p⟩
end L2
namespace My
structure NoDiv (n d : Int) : Prop where
  is : ∀ e : Int, 2 ≤ e → e < d → Int.fmod n e ≠ 0
noncomputable def isP (n:Int):Bool:=@decide (2≤n∧∀ e:Int,2≤e→e * e≤n→Int.fmod n e≠0) (Classical.propDecidable _)
theorem isP_iff (n:Int):isP n=true ↔ (2≤n∧∀ e:Int,2≤e→e * e≤n→Int.fmod n e≠0):=by
 unfold isP
 exact @decide_eq_true_iff _ (Classical.propDecidable _)
def chk (p:Nat):Bool:=decide (2≤p)&&(List.range 1000).all fun e=>decide (e<2) || decide (p<e * e) || decide (p % e≠0)
theorem isP_chk {p:Nat}(h:chk p=true)(hp:p<1000000):isP (p:Int)=true:=by
 unfold chk at h
 rw[Bool.and_eq_true]at h
 obtain⟨h1,h2⟩:=h
 have h1:=of_decide_eq_true h1
 rw[isP_iff]
 refine⟨by omega,fun e he hee h0=>?_⟩
 obtain⟨k,rfl⟩:∃ k:Nat,e=(k:Int):=⟨e.toNat,by omega⟩
 have hkk:k * k≤p:=by exact_mod_cast hee
 have hk:k<1000:=by
  rcases Nat.lt_or_ge k 1000 with c|c
  ·exact c
  ·have:1000 * 1000≤k * k:=Nat.mul_le_mul c c
   omega
 have:=(List.all_eq_true.mp h2) k (List.mem_range.mpr hk)
 simp only[Bool.or_eq_true,decide_eq_true_eq]at this
 rcases this with (c|c)|c
 ·omega
 ·omega
 ·apply c
  have:Int.fmod (p:Int) (k:Int)=((p % k:Nat):Int):=by
   rw[Int.fmod_eq_emod_of_nonneg _ (by omega)];rfl
  rw[this]at h0
  exact_mod_cast h0
theorem last_prime:isP 999983=true:=isP_chk (p:=999983) (by decide +kernel) (by decide)
end My
namespace Mx
def dot:List Int→List Int→Int
 | a::x,b::y=>a * b+dot x y
 | _,_=>0
def dL (p:Int):Int→List (Int×Int)→Int
 | t,[]=>t
 | t,(a,b)::r=>dL p ((t+a * b % p) % p) r
def rowSum (p:Int)(x y:List Int):Int:=dL p 0 (x.zip y)
theorem iN (p:Int):∀ (x y:List Int)(t:Int),t % p=t→dL p t (x.zip y)=(t+dot x y) % p
 | [],_,t,h=>by simp[dL,dot,h]
 | _::_,[],t,h=>by simp[dL,dot,h]
 | a::x,b::y,t,_=>by
  show dL p ((t+a * b % p) % p) (x.zip y)=_
  rw[iN p x y _ (Int.emod_emod_of_dvd _ (Int.dvd_refl _))]
  show ((t+a * b % p) % p+dot x y) % p=(t+(a * b+dot x y)) % p
  rw[Int.emod_add_emod,Int.add_assoc,Int.add_comm t,Int.add_assoc,Int.emod_add_emod]
  congr 1
  omega
theorem rowSum_eq (p:Int)(x y:List Int):rowSum p x y=dot x y % p:=by
 unfold rowSum
 rw[iN p x y 0 (by simp),Int.zero_add]
theorem dot_comm:∀ (x y:List Int),dot x y=dot y x
 | [],[]=>rfl
 | [],_::_=>rfl
 | _::_,[]=>rfl
 | a::x,b::y=>by show a * b+dot x y=b * a+dot y x;rw[Int.mul_comm,dot_comm x y]
theorem iZ (p:Int):∀ (x y:List Int),dot (x.map (· % p)) y % p=dot x y % p
 | [],_=>by simp[dot]
 | _::_,[]=>by simp[dot]
 | a::x,b::y=>by
  show (a % p * b+dot (x.map (· % p)) y) % p=(a * b+dot x y) % p
  rw[Int.add_emod,iZ p x y,Int.mul_emod,Int.emod_emod_of_dvd _ (Int.dvd_refl _),← Int.mul_emod,← Int.add_emod]
theorem dot_map_mod_r (p:Int)(x y:List Int):dot x (y.map (· % p)) % p=dot x y % p:=by
 rw[dot_comm,iZ,dot_comm]
def onesRow (n i:Nat):List Int:=(List.range n).map fun j=>if j=i then 1 else 0
def ones (n:Nat):List (List Int):=(List.range n).map (onesRow n)
theorem oJ:∀ (n i s:Nat)(r:List Int),r.length=n→dot ((List.range' s n).map fun j=>if j=s+i then (1:Int) else 0) r=r.getD i 0
 | 0,i,s,r,h=>by
  have:r=[]:=List.length_eq_zero_iff.mp h
  subst this;simp[dot]
 | n+1,i,s,[],h=>by simp at h
 | n+1,0,s,a::r,h=>by
  rw[List.range'_succ]
  show (if s=s+0 then (1:Int) else 0) * a+dot _ r=a
  rw[if_pos (by omega)]
  have z:∀ (m t:Nat)(v:List Int),s<t→dot ((List.range' t m).map fun j=>if j=s+0 then (1:Int) else 0) v=0:=by
   intro m
   induction m with
   | zero=>intro t v _;simp[dot]
   | succ m ih=>
    intro t v ht
    rw[List.range'_succ]
    cases v with
    | nil=>simp[dot]
    | cons c v=>
     show (if t=s+0 then (1:Int) else 0) * c+dot _ v=0
     rw[if_neg (by omega),ih (t+1) v (by omega)];omega
  rw[z n (s+1) r (by omega)];omega
 | n+1,i+1,s,a::r,h=>by
  rw[List.range'_succ]
  show (if s=s+(i+1) then (1:Int) else 0) * a+dot _ r=_
  rw[if_neg (by omega)]
  have:=oJ n i (s+1) r (by simpa using h)
  rw[show (fun j=>if j=s+(i+1) then (1:Int) else 0)=fun j=>if j=s+1+i then (1:Int) else 0 by funext j;rw[show s+(i+1)=s+1+i by omega]]
  rw[this]
  simp
theorem dot_onesRow (n i:Nat)(r:List Int)(h:r.length=n):dot (onesRow n i) r=r.getD i 0:=by
 have:=oJ n i 0 r h
 unfold onesRow
 rw[List.range_eq_range']
 simpa using this
theorem dvd_emod_sub (p x:Int):p ∣ x % p - x:=by
 refine⟨-(x / p),?_⟩
 rw[Int.emod_def,Int.mul_neg]
 omega
theorem r9 (p c:Int):∀ (r lead v:List Int),lead.length=r.length→p ∣ dot (List.zipWith (fun m t=>(m - c * t % p) % p) r lead) v - (dot r v - c * dot lead v)
 | [],[],v,_=>by simp[dot]
 | x::r,y::lead,[],_=>by simp[dot]
 | x::r,y::lead,z::v,h=>by
  have ih:=r9 p c r lead v (by simpa using h)
  have h1:p ∣ (x - c * y % p) % p - (x - c * y):=by
   rw[Int.sub_emod_emod];exact dvd_emod_sub p _
  show p ∣ ((x - c * y % p) % p * z+dot _ v) - (x * z+dot r v - c * (y * z+dot lead v))
  have:((x - c * y % p) % p * z+dot (List.zipWith (fun m t=>(m - c * t % p) % p) r lead) v) - (x * z+dot r v - c * (y * z+dot lead v))=((x - c * y % p) % p - (x - c * y)) * z+(dot (List.zipWith (fun m t=>(m - c * t % p) % p) r lead) v - (dot r v - c * dot lead v)):=by
   rw[Int.sub_mul ((x - c * y % p) % p),Int.sub_mul x,Int.mul_add,Int.mul_assoc c y z]
   omega
  rw[this]
  exact Int.dvd_add (Int.dvd_mul_of_dvd_left h1) ih
end Mx
namespace Mw
theorem flat_perm {α β:Type}[DecidableEq β](g:α→β):∀ (xs:List β)(ts:List α),xs.Nodup→(∀ t∈ts,g t∈xs)→(xs.flatMap fun x=>ts.filter fun t=>decide (g t=x)).Perm ts
 | [],ts,_,h=>by
  cases ts with
  | nil=>exact .nil
  | cons t _=>exact absurd (h t (by simp)) (by simp)
 | x::xs,ts,nd,h=>by
  have nd:=List.nodup_cons.mp nd
  rw[List.flatMap_cons]
  have e:(xs.flatMap fun y=>ts.filter fun t=>decide (g t=y))=xs.flatMap fun y=>(ts.filter fun t=>!decide (g t=x)).filter fun t=>decide (g t=y):=by
   rw[List.flatMap_def,List.flatMap_def]
   congr 1
   refine List.map_congr_left fun y hy=>?_
   rw[List.filter_filter]
   refine List.filter_congr fun t _=>?_
   by_cases c:g t=y
   ·have:¬ g t=x:=fun z=>nd.1 (by rw[← z,c];exact hy)
    simp[c,this]
    intro z;exact this (c.trans z)
   ·simp[c]
  rw[e]
  have ih:=flat_perm g xs (ts.filter fun t=>!decide (g t=x)) nd.2 fun t ht=>by
   obtain⟨h1,h2⟩:=List.mem_filter.mp ht
   have h3:=h t h1
   rcases List.mem_cons.mp h3 with z|z
   ·simp[z]at h2
   ·exact z
  exact (List.Perm.append_left _ ih).trans (List.filter_append_perm _ _)
theorem sub_full {β:Type}[DecidableEq β]:∀ (l1 l2:List β),l1.Nodup→(∀ x∈l1,x∈l2)→l2.length≤l1.length→∀ x∈l2,x∈l1
 | [],l2,_,_,hl,x,hx=>by
  cases l2 with
  | nil=>exact hx
  | cons _ _=>simp at hl
 | a::l1,l2,nd,sub,hl,x,hx=>by
  have nd:=List.nodup_cons.mp nd
  have ha:=sub a (by simp)
  by_cases c:x=a
  ·rw[c];simp
  ·refine List.mem_cons_of_mem _ (sub_full l1 (l2.erase a) nd.2 (fun y hy=>?_) ?_ x ?_)
   ·have ne:y≠a:=fun z=>nd.1 (z▸hy)
    exact (List.mem_erase_of_ne ne).mpr (sub y (by simp[hy]))
   ·rw[List.length_erase_of_mem ha]
    simp at hl
    omega
   ·exact (List.mem_erase_of_ne c).mpr hx
theorem sorted_eq {l1 l2:List Int}(p:l1.Perm l2)(h1:l1.Pairwise (·≤·))(h2:l2.Pairwise (·≤·)):l1=l2:=
 List.Perm.eq_of_pairwise (fun a b _ _ h3 h4=>Int.le_antisymm h3 h4) h1 h2 p
end Mw
namespace K42
open PySem L2
open PyProof.Rows (boot_list boot_int boot_bool boot_tuple boot_str boot_dict boot_all)
def top (i:Nat):Stmt:=PySem.Challenge.pw_mixposts_k42_what_ties_carry.main.body.getD i (.Pass ⟨0,0,0,0⟩)
inductive Kd where
  | house | listener | post
deriving DecidableEq
structure Cl where
  net : Addr
  post : Addr
  house : Addr
  lstn : Addr
def Cl.of (c:Cl):Kd→Addr
 | .house=>c.house
 | .listener=>c.lstn
 | .post=>c.post
structure Cl.Ok (K : PySem.W.Frag) (c : Cl) : Prop where
  cn : Cls K c.net
  cp : Cls K c.post
  ch : Cls K c.house
  cl : Cls K c.lstn
  fp : NoAttr K c.net "kept_posts"
  ft : NoAttr K c.net "kept_ties"
  fn : NoAttr K c.net "next_number"
  np : NoAttr K c.post "name"
  nh : NoAttr K c.house "name"
  nl : NoAttr K c.lstn "name"
  ph : c.post ≠ c.house
  pl : c.post ≠ c.lstn
  hl : c.house ≠ c.lstn
def iL (c:Cl)(C:Addr):Prop:=∃ k,C=c.of k
theorem Cl.Ok.cls {K:PySem.W.Frag}{c:Cl} (o:Cl.Ok K c):∀ k,Cls K (c.of k)
 | .house=>o.ch
 | .listener=>o.cl
 | .post=>o.cp
theorem Cl.Ok.nam {K:PySem.W.Frag}{c:Cl} (o:Cl.Ok K c):∀ k,NoAttr K (c.of k) "name"
 | .house=>o.nh
 | .listener=>o.nl
 | .post=>o.np
abbrev Tie:=Int×Str×Str×Int
structure NS where
  posts : List (Str × Kd)
  ties : List Tie
  next : Int
def PostAt (c:Cl)(H:Hp)(v:V)(p:Str×Kd):Prop:=∃ a dx,v=.ref a∧H a=some (.ins (c.of p.2) dx [("name",.str p.1)])
def TieAt (H:Hp)(v:V)(t:Tie):Prop:=∃ a,v=.ref a∧H a=some (.tup [.int t.1,.str t.2.1,.str t.2.2.1,.int t.2.2.2])
structure NetAt (c : Cl) (H : Hp) (n dp dt : Addr) (S : NS) : Prop where
  ins : ∃ dx, H n = some (.ins c.net dx [("kept_posts", .ref dp), ("kept_ties", .ref dt), ("next_number", .int S.next)])
  posts : ∃ kvs, H dp = some (.dK kvs) ∧ Paired (fun (kv : Key × V) p => kv.1 = Sum.inr p.1 ∧ PostAt c H kv.2 p) kvs S.posts
  ties : ∃ kvs, H dt = some (.dK kvs) ∧ Paired (fun (kv : Key × V) (t : Tie) => kv.1 = Sum.inl t.1 ∧ TieAt H kv.2 t) kvs S.ties
  ne : dp ≠ dt
theorem PostAt.mono {c:Cl}{H H':Hp}{v:V}{p:Str×Kd} (e:Same H H') (h:PostAt c H v p):PostAt c H' v p:=let ⟨a,dx,q1,q2⟩:=h;⟨a,dx,q1,e _ _ q2⟩
theorem TieAt.mono {H H':Hp}{v:V}{t:Tie} (e:Same H H') (h:TieAt H v t):TieAt H' v t:=let ⟨a,q1,q2⟩:=h;⟨a,q1,e _ _ q2⟩
theorem NetAt.mono {c:Cl}{H H':Hp}{n dp dt:Addr}{S:NS} (e:Same H H') (h:NetAt c H n dp dt S):NetAt c H' n dp dt S:=by
 obtain⟨⟨dx,h1⟩,⟨kp,h2,p2⟩,⟨kt,h3,p3⟩,h4⟩:=h
 exact⟨⟨dx,e _ _ h1⟩,⟨kp,e _ _ h2,Paired.mapP p2 fun _ _ ⟨a,b⟩=>⟨a,b.mono e⟩⟩,⟨kt,e _ _ h3,Paired.mapP p3 fun _ _ ⟨a,b⟩=>⟨a,b.mono e⟩⟩,h4⟩
def LET:Str:="abcdefghijklmnopqrstuvwxyz"
def qW (x:Str):Bool:=!(Builtin.Str.occurrences LET x 0 LET.length 1).isEmpty
def bD (x:Str):Bool:=decide (1≤x.length)&&decide (x.length≤8)&&(List.range x.cps.size).all fun i=>qW (sgn x i)
structure TxtL (mg : Str → Option Value) : Prop where
  n_len : mg "len" = none
  n_isinstance : mg "isinstance" = none
  n_str : mg "str" = none
  n_all : mg "all" = none
  n_list : mg "list" = none
structure TxtG (mg : Str → Option Value) : Prop where
  let_ : ∃ t, mg "LETTERS" = some (.str LET t)
  lon : ∃ t, mg "LONGEST_NAME" = some (.int 8 t)
  mop : ∃ t, mg "MOST_POSTS" = some (.int 20 t)
  mol : ∃ t, mg "MOST_LISTENERS" = some (.int 8 t)
structure TxtK (K : PySem.W.Frag) : Prop where
  ss : PySem.W.kitOne K (.type "str") (.type "str") = some true
theorem lK {js:List Nat}{te:TE}{σ:St}{H:Hp}{F:Addr→Hp→Prop}{x:Str} (g:Nat→V) (hz:x.cps.size≤1000)
  (hs:∀ i H2,i<x.cps.size→Same H H2→te (some (.str (sgn x i))::bM σ js) H2 fun v H5=>v=g i∧Same H2 H5)
  (hd:∀ l H',H l=none→Same H H'→H' l=some (.lst ((List.range x.cps.size).map g))→F l H'):bw 1 js (bg 0) i8 te σ F (Its x) H:=by
 intro l hl0
 refine⟨fun i m σ' H2=>m=x.cps.size - i∧i≤x.cps.size∧(∃ o,σ'=o::bM σ js)∧Same H H2∧H2 l=some (.lst ((List.range i).map g)),⟨x.cps.size,by simp,Nat.zero_le _,⟨none,rfl⟩,az (Same.refl _) hl0,a9⟩,?_⟩
 rintro i m σ' H2 ⟨rfl,hi,⟨o,rfl⟩,e,hl⟩
 by_cases hlt:i<x.cps.size
 ·refine .inr ⟨hlt,fun v H3 y=>?_⟩
  obtain⟨rfl,rfl⟩:=y
  refine⟨fun _=>False,fun v H5=>v=g i∧Same H3 H5,fun H4 p4=>p4.elim,fun v H5 ⟨ev,e5⟩=>?_,hs i H3 hlt e⟩
  subst ev
  refine⟨_,e5 _ _ hl,by simp only[List.length_map,List.length_range];exact Nat.lt_of_lt_of_le hlt (Nat.le_trans hz (by decide)),_,?_,rfl,hlt,⟨_,rfl⟩,aw (e.trans e5) hl0,?_⟩
  ·omega
  ·rw[a9,List.range_succ,List.map_append];rfl
 ·have ei:i=x.cps.size:=by omega
  subst ei
  exact .inl ⟨rfl,hd l H2 hl0 e hl⟩
section
variable {P : Program}{w : World}{K : PySem.W.Frag}{mg : Str → Option Value}{base : Heap}
def gk:Sp:=fun vs H Q _=>∃ x:Str,vs=[.str x]∧x.length≤1000∧∀ H',Same H H'→Q (.bl (bD x)) H'
abbrev io:Stmt:=top 19
theorem sc_is_name:am ["name"] ["name"] (ah io):=⟨rfl,rfl,rfl,by decide +kernel,rfl,by decide +kernel,by decide +kernel⟩
theorem pS {f:Addr}{fd:FuncData} (F:Fun K "is_name" "is_name" io f fd) (T:TxtL mg) (TG:TxtG mg) (TK:TxtK K):FnOk P w K mg base CX0 1 f fd ["name"] gk:=by
 obtain⟨tl,hg_LETTERS⟩:=TG.let_
 obtain⟨tn,hg_LONGEST_NAME⟩:=TG.lon
 refine F.ok sc_is_name (fun vs H Q E h=>?_) (fun cdv A outer s H vs Q E hr h=>?_)
 ·obtain⟨x,rfl,_⟩:=h
  rfl
 ·obtain⟨x,rfl,hx,q⟩:=h
  have ND:=sc_is_name.nd
  refine⟨_,(ad (bB (gD (dv (aB (vm K) rfl T.n_isinstance bR (a8 (pv 0) (a8 (jg (v:=.ty "str") rfl T.n_str boot_str rfl) ae)))))
  (af (ay dh))
  aH)
 (af (ay (mw (nF nH nH aj (aB mQ rfl T.n_len boot_len (a8 (pv 0) ae)) (eh (v:=.int 8) rfl hg_LONGEST_NAME ⟨_,rfl⟩)) (mr (aB (lM K rfl) rfl T.n_all boot_all (a8 (aO rfl (ao (nT:=1) (js:=[]) (N':=["sign"]) rfl rfl (by kernel_rfl)) (tD (pv 0))
  (fun _ _ _ _ _=>(ai (i:=0) (show List.Nodup (["sign"]:List Str) by decide +kernel) rfl (by first|exact Or.inl rfl|exact Or.inr rfl)))
  (fun _ _ _ _ _=>aT)
  (fun _ _ _ _ _=>(mt rW (pv 0) (eh (v:=.str LET) rfl hg_LETTERS ⟨_,rfl⟩) (by with_unfolding_all rfl)))) ae))))))),?_⟩
  have hxs:x.cps.size=x.length:=rfl
  refine⟨_,rfl,.str x,_,_,_,rfl,.str x,TK.ss,_,rfl,bv ?_⟩
  have qb:bD x=(decide (1≤x.length)&&decide (x.length≤8)&&((List.range x.cps.size).map fun i=>qW (sgn x i)).all id):=by
   unfold bD
   rw[List.all_map]
   rfl
  refine⟨_,rfl,x,rfl,Nat.le_trans hx (by decide),?_⟩
  refine⟨_,_,rfl,rfl,_,rfl,bT (fun h1=>?_) (fun h1=>?_)⟩
  ·have h1:1≤x.length:=by have:=of_decide_eq_true h1;omega
   refine⟨_,_,rfl,rfl,_,rfl,bT (fun h2=>?_) (fun h2=>?_)⟩
   ·have h2:x.length≤8:=by have:=of_decide_eq_true h2;omega
    refine⟨_,rfl,x,rfl,lK (fun i=>.bl (qW (sgn x i))) (by omega) (fun i H2 hi e=>⟨_,rfl,_,LET,rfl,rfl,rfl,Same.refl _⟩) (fun l H' hl0 e hl=>?_)⟩
    refine⟨l,(List.range x.cps.size).map fun i=>qW (sgn x i),rfl,SqL.of (by rw[List.map_map];exact hl),?_⟩
    have:=q H' e
    rw[qb,decide_eq_true h1,decide_eq_true h2]at this
    exact this
   ·have h2:¬ x.length≤8:=fun z=>h2 (decide_eq_true (by omega))
    have:=q H (Same.refl _)
    rw[qb,decide_eq_false h2,Bool.and_false,Bool.false_and]at this
    exact this
  ·have h1:¬ 1≤x.length:=fun z=>h1 (decide_eq_true (by omega))
   have:=q H (Same.refl _)
   rw[qb,decide_eq_false h1,Bool.false_and,Bool.false_and]at this
   exact⟨_,rfl,bv this⟩
def dI (b:V):Sp:=fun vs H Q _=>∃ v,vs=[v]∧Q b H
abbrev cQ:Stmt:=aP (top 24) 3
theorem kB:am ["self"] ["self"] (ah cQ):=⟨rfl,rfl,rfl,by decide +kernel,rfl,by decide +kernel,by decide +kernel⟩
theorem fZ {f:Addr}{fd:FuncData} (F:Fun K "reads" "Post.reads" cQ f fd):FnOk P w K mg base CX0 1 f fd ["self"] (dI (.bl false)):=by
 refine F.ok kB (fun vs H Q E h=>?_) (fun cdv A outer s H vs Q E hr h=>?_)
 ·obtain⟨v,rfl,_⟩:=h
  rfl
 ·obtain⟨v,rfl,q⟩:=h
  exact⟨_,(af (ay dh)),q⟩
abbrev cc:Stmt:=aP (top 26) 1
theorem gT:am ["self"] ["self"] (ah cc):=⟨rfl,rfl,rfl,by decide +kernel,rfl,by decide +kernel,by decide +kernel⟩
theorem hU {f:Addr}{fd:FuncData} (F:Fun K "reads" "Listener.reads" cc f fd):FnOk P w K mg base CX0 1 f fd ["self"] (dI (.bl true)):=by
 refine F.ok gT (fun vs H Q E h=>?_) (fun cdv A outer s H vs Q E hr h=>?_)
 ·obtain⟨v,rfl,_⟩:=h
  rfl
 ·obtain⟨v,rfl,q⟩:=h
  exact⟨_,(af (ay dh)),q⟩
abbrev cR:Stmt:=aP (top 24) 4
theorem kC:am ["self"] ["self"] (ah cR):=⟨rfl,rfl,rfl,by decide +kernel,rfl,by decide +kernel,by decide +kernel⟩
theorem g9 {f:Addr}{fd:FuncData} (F:Fun K "hears" "Post.hears" cR f fd):FnOk P w K mg base CX0 1 f fd ["self"] (dI (.bl true)):=by
 refine F.ok kC (fun vs H Q E h=>?_) (fun cdv A outer s H vs Q E hr h=>?_)
 ·obtain⟨v,rfl,_⟩:=h
  rfl
 ·obtain⟨v,rfl,q⟩:=h
  exact⟨_,(af (ay dh)),q⟩
abbrev dr:Stmt:=aP (top 25) 1
theorem jA:am ["self"] ["self"] (ah dr):=⟨rfl,rfl,rfl,by decide +kernel,rfl,by decide +kernel,by decide +kernel⟩
theorem jR {f:Addr}{fd:FuncData} (F:Fun K "hears" "House.hears" dr f fd):FnOk P w K mg base CX0 1 f fd ["self"] (dI (.bl false)):=by
 refine F.ok jA (fun vs H Q E h=>?_) (fun cdv A outer s H vs Q E hr h=>?_)
 ·obtain⟨v,rfl,_⟩:=h
  rfl
 ·obtain⟨v,rfl,q⟩:=h
  exact⟨_,(af (ay dh)),q⟩
def rdB:Kd→Bool
 | .listener=>true
 | _=>false
def hrB:Kd→Bool
 | .house=>false
 | _=>true
def bG (c:Cl)(C:Addr):Sp:=dI (.bl (decide (C=c.lstn)))
def bH (c:Cl)(C:Addr):Sp:=dI (.bl (!decide (C=c.house)))
theorem fg {c:Cl}(O:Cl.Ok K c):∀ k,decide (c.of k=c.lstn)=rdB k
 | .listener=>decide_eq_true rfl
 | .house=>decide_eq_false O.hl
 | .post=>decide_eq_false O.pl
theorem fw {c:Cl}(O:Cl.Ok K c):∀ k,(!decide (c.of k=c.house))=hrB k
 | .house=>by rw[show decide (c.of .house=c.house)=true from decide_eq_true rfl];rfl
 | .listener=>by rw[show decide (c.of .listener=c.house)=false from decide_eq_false O.hl.symm];rfl
 | .post=>by rw[show decide (c.of .post=c.house)=false from decide_eq_false O.ph];rfl
def cV (c:Cl):Sp:=fun vs H Q _=>∃ (x:Addr)(k:Kd)(dx:Addr)(n:Str),vs=[.ref x,.str n]∧H x=some (.ins (c.of k) dx [])∧Q .non (upd H x (.ins (c.of k) dx [("name",.str n)]))
abbrev bn:Stmt:=aP (top 24) 0
theorem ig:am ["self","name"] ["self","name"] (ah bn):=⟨rfl,rfl,rfl,by decide +kernel,rfl,by decide +kernel,by decide +kernel⟩
theorem eo {c:Cl}{f:Addr}{fd:FuncData} (F:Fun K "__init__" "Post.__init__" bn f fd) (O:Cl.Ok K c):FnOk P w K mg base CX0 1 f fd ["self","name"] (cV c):=by
 refine F.ok ig (fun vs H Q E h=>?_) (fun cdv A outer s H vs Q E hr h=>?_)
 ·obtain⟨x,k,dx,n,rfl,_⟩:=h
  rfl
 ·obtain⟨x,k,dx,n,rfl,hx,q⟩:=h
  refine⟨_,(af (iu (pv 0) (pv 1) rfl)),?_⟩
  exact⟨_,rfl,_,rfl,x,c.of k,dx,_,rfl,hx,O.cls k,O.nam k,by decide,q⟩
def gR (c:Cl):Sp:=fun vs H Q _=>∃ (x dx:Addr),vs=[.ref x]∧H x=some (.ins c.net dx [])∧∀ d1 d2 H',H d1=none→H d2=none→d1≠d2→(∀ a o,a≠x→H a=some o→H' a=some o)→
 H' x=some (.ins c.net dx [("kept_posts",.ref d1),("kept_ties",.ref d2),("next_number",.int 0)])→H' d1=some (.dK [])→H' d2=some (.dK [])→Q .non H'
abbrev cZ:Stmt:=aP (top 27) 0
theorem j3:am ["self"] ["self"] (ah cZ):=⟨rfl,rfl,rfl,by decide +kernel,rfl,by decide +kernel,by decide +kernel⟩
theorem nS {c:Cl}{f:Addr}{fd:FuncData} (F:Fun K "__init__" "Net.__init__" cZ f fd) (O:Cl.Ok K c):FnOk P w K mg base CX0 1 f fd ["self"] (gR c):=by
 refine F.ok j3 (fun vs H Q E h=>?_) (fun cdv A outer s H vs Q E hr h=>?_)
 ·obtain⟨x,dx,rfl,_⟩:=h
  rfl
 ·obtain⟨x,dx,rfl,hx,q⟩:=h
  refine⟨_,(ad (iu (pv 0) dM rfl)
 (ad (iu (pv 0) dM rfl)
 (af (iu (pv 0) aj rfl)))),?_⟩
  intro d1 h1
  have n1:x≠d1:=ag hx h1
  refine⟨_,rfl,x,c.net,dx,_,rfl,by rw[aa n1];exact hx,O.cn,O.fp,by decide,?_⟩
  intro d2 h2
  have n2:x≠d2:=ag (o:=.ins c.net dx [("kept_posts",.ref d1)]) a9 h2
  have n3:d1≠d2:=ag (H:=upd (upd H d1 (.dK [])) x (.ins c.net dx [("kept_posts",.ref d1)])) (o:=.dK []) (by rw[aa n1.symm];exact a9) h2
  refine⟨_,rfl,x,c.net,dx,_,rfl,by rw[aa n2];exact a9,O.cn,O.ft,(by show 1<1000;decide),?_⟩
  refine⟨_,rfl,x,c.net,dx,_,rfl,a9,O.cn,O.fn,(by show 2<1000;decide),?_⟩
  have h2':H d2=none:=by
   rw[aa n2.symm,aa n3.symm]at h2
   exact h2
  refine q d1 d2 _ h1 h2' n3 (fun a o na ha=>?_) a9 ?_ ?_
  ·rw[aa na,aa na,aa (ag ha h2'),aa na,aa (ag ha h1)]
   exact ha
  ·rw[aa n1.symm,aa n1.symm,aa n3,aa n1.symm]
   exact a9
  ·rw[aa n2.symm,aa n2.symm]
   exact a9
end
structure Xc where
  noName : Addr
  taken : Addr
  oneHouse : Addr
  tooMany : Addr
structure vE (K : PySem.W.Frag) (mg : Str → Option Value) (x : Xc) : Prop where
  c_NoName : mg "NoName" = some (.ref x.noName)
  x_NoName : PySem.W.excIn K x.noName bC "ValueError.__new__" = true
  c_Taken : mg "Taken" = some (.ref x.taken)
  x_Taken : PySem.W.excIn K x.taken bC "ValueError.__new__" = true
  c_OneHouse : mg "OneHouse" = some (.ref x.oneHouse)
  x_OneHouse : PySem.W.excIn K x.oneHouse bC "ValueError.__new__" = true
  c_TooMany : mg "TooMany" = some (.ref x.tooMany)
  x_TooMany : PySem.W.excIn K x.tooMany bC "ValueError.__new__" = true
def NS.names (S:NS):List Str:=S.posts.map (·.1)
section
variable {P : Program}{w : World}{K : PySem.W.Frag}{mg : Str → Option Value}{base : Heap}
theorem gP {c:Cl}{H:Hp}{x:Str}:∀ {kvs:List (Key×V)}{ps:List (Str×Kd)},Paired (fun (kv:Key×V) p=>kv.1=Sum.inr p.1∧PostAt c H kv.2 p) kvs ps→((aY kvs (Sum.inr x)).isSome=true ↔ x∈ps.map (·.1))
 | _,_,.nil=>by simp[aY]
 | kv::kvs,p::ps,.cons ⟨e,_⟩ r=>by
  by_cases h:p.1=x
  ·rw[bU (by rw[e,h])]
   simp[h]
  ·rw[bV (by rw[e];exact fun z=>h (Sum.inr.inj z)),gP r]
   simp[Ne.symm h]
def jw (c:Cl)(X:Xc):Sp:=fun vs H Q E=>∃ (n dp dt:Addr)(S:NS)(x:Str),vs=[.ref n,.str x]∧NetAt c H n dp dt S∧x.length≤1000∧
 (bD x=false→∀ H',Same H H'→E (.ref X.noName) none H')∧(bD x=true→x∈S.names→∀ H',Same H H'→E (.ref X.taken) none H')∧(bD x=true→¬ x∈S.names→∀ H',Same H H'→Q .non H')
abbrev bz:Stmt:=aP (top 27) 4
theorem sc_Net_check_new_name:am ["self","name"] ["self","name"] (ah bz):=⟨rfl,rfl,rfl,by decide +kernel,rfl,by decide +kernel,by decide +kernel⟩
theorem eK {c:Cl}{X:Xc}{f:Addr}{fd:FuncData} (F:Fun K "check_new_name" "Net.check_new_name" bz f fd) (O:Cl.Ok K c) (TX:vE K mg X) (D_is_name:Df P w K mg base 1 "is_name" ["name"] gk):FnOk P w K mg base (CXE P w) 2 f fd ["self","name"] (jw c X):=by
 refine F.okX sc_Net_check_new_name (fun vs H Q E h=>?_) (fun cdv A outer s H vs Q E hr h=>?_)
 ·obtain⟨n,dp,dt,S,x,rfl,_⟩:=h
  rfl
 ·obtain⟨n,dp,dt,S,x,rfl,N,hx,q1,q2,q3⟩:=h
  have ND:=sc_Net_check_new_name.nd
  refine⟨_,(ad (bB (gD (dv (aA D_is_name (hr.mono (by decide)) rfl (a8 (pv 1) ae))))
  (af (bq rfl bO rfl TX.c_NoName TX.x_NoName))
  aH)
 (af (bB (mj (tI (b7 hr) (pv 1) (fW K (pv 0) rfl)))
  (af (bq rfl bO rfl TX.c_Taken TX.x_Taken))
  aH))),?_⟩
  refine⟨_,rfl,x,rfl,hx,fun H1 e1=>⟨_,rfl,?_⟩⟩
  cases hn:bD x with
  | false=>exact ci (q1 hn H1 e1)
  | true=>
   refine bv ?_
   obtain⟨dx,h1⟩:=(N.mono e1).ins
   obtain⟨kvs,hd,hp⟩:=(N.mono e1).posts
   refine⟨_,rfl,_,rfl,n,c.net,dx,_,_,rfl,h1,O.cn,O.fp,rfl,dp,_,rfl,DGet.k (k:=Sum.inr x) hd,_,rfl,?_⟩
   have hv:=gP (x:=x) hp
   cases hs:(aY kvs (Sum.inr x)).isSome with
   | true=>exact ci (q2 hn (hv.mp hs) H1 e1)
   | false=>exact bv (q3 hn (fun z=>by rw[hv.mpr z]at hs;cases hs) H1 e1)
def NS.lis (S:NS):List Str:=(S.posts.filter fun p=>rdB p.2).map (·.1)
def cM (c:Cl):Sp:=fun vs H Q _=>∃ (n dp dt:Addr)(S:NS),vs=[.ref n]∧NetAt c H n dp dt S∧S.posts.length≤1000∧∀ l H',Same H H'→H l=none→H' l=some (.lst (S.lis.map V.str))→Q (.ref l) H'
abbrev cF:Stmt:=aP (top 27) 12
theorem ij:am ["self"] ["self"] (ah cF):=⟨rfl,rfl,rfl,by decide +kernel,rfl,by decide +kernel,by decide +kernel⟩
theorem iD {c:Cl}{f:Addr}{fd:FuncData} (F:Fun K "listeners" "Net.listeners" cF f fd) (O:Cl.Ok K c) (D_reads:∀ C,iL c C→Dm P w K mg base 1 C "reads" ["self"] (bG c C)):FnOk P w K mg base CX0 2 f fd ["self"] (cM c):=by
 refine F.ok ij (fun vs H Q E h=>?_) (fun cdv A outer s H vs Q E hr h=>?_)
 ·obtain⟨n,dp,dt,S,rfl,_⟩:=h
  rfl
 ·obtain⟨n,dp,dt,S,rfl,N,hz,q⟩:=h
  refine⟨_,(af (ay (jH rfl (ao (nT:=1) (js:=[]) (N':=["post"]) rfl rfl (by kernel_rfl)) (mq (fW K (pv 0) rfl))
  (fun _ _ _ _ _=>(ai (i:=0) (show List.Nodup (["post"]:List Str) by decide +kernel) rfl (by first|exact Or.inl rfl|exact Or.inr rfl)))
  (fun _ _ _ _ _=>(gX (dv (fK (pv 0) D_reads (hr.mono (by decide))))))
  (fun _ _ _ _ _=>(fW K (pv 0) rfl))))),?_⟩
  obtain⟨dx,h1⟩:=N.ins
  obtain⟨kvs,hd,hp⟩:=N.posts
  have hl:=Paired.length hp
  refine⟨_,rfl,n,c.net,dx,_,_,rfl,h1,O.cn,O.fp,rfl,dp,kvs,rfl,hd,fun o M hM=>?_⟩
  rw[qh]
  refine qp (fun i=>rdB (S.posts.getD i ("",.post)).2) (fun i=>.str (S.posts.getD i ("",.post)).1) a9 (by omega) (fun i kv H2 ek e2=>?_) (fun l H' h0 e' hl'=>?_)
  ·obtain⟨p,ep,_,a,dxa,ea,ha⟩:=Paired.at hp ek
   have gd:S.posts.getD i ("",.post)=p:=by rw[List.getD_eq_getElem?_getD,ep];rfl
   have ha2:H2 a=some (.ins (c.of p.2) dxa [("name",.str p.1)]):=e2 _ _ (by rw[aa (bb ha hd (fun z=>nomatch z))];exact ha)
   rw[gd]
   refine⟨_,rfl,a,c.of p.2,dxa,_,ea,⟨_,rfl⟩,ha2,rfl,_,rfl,_,rfl,?_⟩
   rw[fg O]
   refine bT (fun h=>?_) (fun h=>⟨by simpa using h,Same.refl _⟩)
   exact⟨_,rfl,a,c.of p.2,dxa,_,_,ea,ha2,O.cls _,O.nam _,rfl,h,rfl,Same.refl _⟩
  ·refine⟨dp,o,kvs,hM,e' _ _ a9,q l _ (dJ hd e') ?_ ?_⟩
   ·have nl:l≠dp:=fun z=>by rw[z,a9]at h0;cases h0
    rw[aa nl]at h0
    exact h0
   ·have nl:l≠dp:=fun z=>by rw[z,a9]at h0;cases h0
    rw[aa nl,hl',hl]
    congr 2
    rw[ir S.posts (fun p=>rdB p.2) (fun p=>V.str p.1) _ _ fun i p ep=>by
     have gd:S.posts.getD i ("",.post)=p:=by rw[List.getD_eq_getElem?_getD,ep];rfl
     rw[gd];exact⟨rfl,rfl⟩]
    unfold NS.lis
    rw[List.map_map]
    rfl
def NS.home (S:NS):Option (Str×Kd):=S.posts.find? fun p=>!hrB p.2
def eJ:Option (Str×Kd)→V
 | none=>.non
 | some p=>.str p.1
def je (c:Cl):Sp:=fun vs H Q _=>∃ (n dp dt:Addr)(S:NS),vs=[.ref n]∧NetAt c H n dp dt S∧Q (eJ S.home) H
abbrev gA:Stmt:=aP (top 27) 13
theorem sc_Net_home:am ["self","post"] ["self"] (ah gA):=⟨rfl,rfl,rfl,by decide +kernel,rfl,by decide +kernel,by decide +kernel⟩
theorem nU {c:Cl}{f:Addr}{fd:FuncData} (F:Fun K "home" "Net.home" gA f fd) (O:Cl.Ok K c) (D_hears:∀ C,iL c C→Dm P w K mg base 1 C "hears" ["self"] (bH c C)):FnOk P w K mg base CX0 2 f fd ["self"] (je c):=by
 refine F.ok sc_Net_home (fun vs H Q E h=>?_) (fun cdv A outer s H vs Q E hr h=>?_)
 ·obtain⟨n,dp,dt,S,rfl,_⟩:=h
  rfl
 ·obtain⟨n,dp,dt,S,rfl,N,q⟩:=h
  have ND:=sc_Net_home.nd
  refine⟨_,(ad (mn PassesOwn.never rfl (mq (fW K (pv 0) rfl)) (ai (i:=1) ND rfl (by first|exact Or.inl rfl|exact Or.inr rfl))
  (af (bB (gD (dv (fK (pv 1) D_hears (hr.mono (by decide)))))
  (af (ay (fW K (pv 1) rfl)))
  aH)))
 (af (ay iy))),?_⟩
  obtain⟨dx,h1⟩:=N.ins
  obtain⟨kvs,hd,hp⟩:=N.posts
  have hl:=Paired.length hp
  refine⟨_,rfl,n,c.net,dx,_,_,rfl,h1,O.cn,O.fp,rfl,dp,kvs,rfl,hd,fun o M hM=>?_⟩
  rw[qh]
  refine oB (kvs:=kvs) (fun i σ H2=>∃ ov,σ=[some (.ref n),ov]∧H2=upd H dp (.frz o (.dK kvs))∧∀ p∈S.posts.take i,hrB p.2=true) ⟨none,rfl,rfl,by simp⟩ (fun i σ H2 _ ⟨_,_,e,_⟩=>by rw[e];exact a9) (fun i kv σ H2 ek ⟨ov,es,e,hh⟩=>?_) (fun σ H2 ⟨ov,es,e,hh⟩=>?_)
  ·subst es e
   obtain⟨p,ep,_,a,dxa,ea,ha⟩:=Paired.at hp ek
   have ha2:upd H dp (.frz o (.dK kvs)) a=some (.ins (c.of p.2) dxa [("name",.str p.1)]):=by rw[aa (bb ha hd (fun z=>nomatch z))];exact ha
   refine⟨_,rfl,a,c.of p.2,dxa,_,ea,⟨_,rfl⟩,ha2,rfl,_,rfl,_,rfl,?_⟩
   rw[fw O]
   cases hb:hrB p.2 with
   | false=>
    refine ci ⟨_,rfl,a,c.of p.2,dxa,_,_,ea,ha2,O.cls _,O.nam _,rfl,dp,o,kvs,hM,a9,?_⟩
    have:S.home=some p:=by
     unfold NS.home
     rw[List.find?_eq_some_iff_getElem]
     obtain⟨hi,e2⟩:=List.getElem?_eq_some_iff.mp ep
     refine⟨by rw[hb];rfl,i,hi,e2,fun j hj=>?_⟩
     rw[hh _ (List.mem_take_iff_getElem.mpr ⟨j,by omega,rfl⟩)]
     rfl
    rw[this]at q
    rw[kP hd]
    exact q
   | true=>
    refine bv ⟨_,rfl,rfl,fun p' hp'=>?_⟩
    rw[List.take_add_one,ep]at hp'
    rcases List.mem_append.mp hp' with z|z
    ·exact hh p' z
    ·have:p'=p:=by simpa using z
     rw[this];exact hb
  ·subst es e
   refine⟨dp,o,kvs,hM,a9,?_⟩
   have:S.home=none:=by
    unfold NS.home
    rw[List.find?_eq_none]
    intro p hpm
    rw[hl,List.take_length]at hh
    rw[hh p hpm]
    simp
   rw[this]at q
   rw[kP hd]
   exact q
end
def But (d:Addr)(H H':Hp):Prop:=∀ a o,a≠d→H a=some o→H' a=some o
theorem But.of {d:Addr}{H H':Hp} (e:Same H H'):But d H H':=fun a o _ h=>e a o h
theorem But.trans {d:Addr}{H H1 H2:Hp} (a:But d H H1) (b:But d H1 H2):But d H H2:=fun c o n h=>b c o n (a c o n h)
def NS.put (S:NS)(x:Str)(k:Kd):NS:={ S with posts:=S.posts++[(x,k)] }
theorem NetAt.put {c:Cl}{H H':Hp}{n dp dt a:Addr}{S:NS}{p:Str×Kd}{kvs:List (Key×V)} (N:NetAt c H n dp dt S) (hd:H dp=some (.dK kvs)) (hp:Paired (fun (kv:Key×V) p=>kv.1=Sum.inr p.1∧PostAt c H kv.2 p) kvs S.posts) (pa:PostAt c H (.ref a) p) (e:But dp H H')
  (hd':H' dp=some (.dK (kvs++[(Sum.inr p.1,.ref a)]))):NetAt c H' n dp dt (S.put p.1 p.2):=by
 obtain⟨⟨dx,h1⟩,_,⟨kt,h3,p3⟩,h4⟩:=N
 have keepP:∀ {v:V}{q:Str×Kd},PostAt c H v q→PostAt c H' v q:=fun⟨b,dxb,eb,hb⟩=>⟨b,dxb,eb,e _ _ (bb hb hd (fun z=>nomatch z)) hb⟩
 have keepT:∀ {v:V}{t:Tie},TieAt H v t→TieAt H' v t:=fun⟨b,eb,hb⟩=>⟨b,eb,e _ _ (bb hb hd (fun z=>nomatch z)) hb⟩
 exact⟨⟨dx,e _ _ (bb h1 hd (fun z=>nomatch z)) h1⟩,⟨_,hd',Paired.snoc' (Paired.mapP hp fun _ _ ⟨x,y⟩=>⟨x,keepP y⟩) ⟨rfl,keepP pa⟩⟩,⟨kt,e _ _ (Ne.symm h4) h3,Paired.mapP p3 fun _ _ ⟨x,y⟩=>⟨x,keepT y⟩⟩,h4⟩
section
variable {P : Program}{w : World}{K : PySem.W.Frag}{mg : Str → Option Value}{base : Heap}
def k9 (S:NS)(k:Kd):Bool:=decide (20≤S.posts.length) || (rdB k&&decide (8≤S.lis.length))
def cT (c:Cl)(X:Xc):Sp:=fun vs H Q E=>∃ (n dp dt a:Addr)(S:NS)(p:Str×Kd),vs=[.ref n,.ref a]∧NetAt c H n dp dt S∧PostAt c H (.ref a) p∧¬ p.1∈S.names∧S.posts.length≤1000∧
 (k9 S p.2=true→∀ H',Same H H'→E (.ref X.tooMany) none H')∧(k9 S p.2=false→∀ H',But dp H H'→NetAt c H' n dp dt (S.put p.1 p.2)→Q .non H')
abbrev dY:Stmt:=aP (top 27) 5
theorem sc_Net_put_in:am ["self","post"] ["self","post"] (ah dY):=⟨rfl,rfl,rfl,by decide +kernel,rfl,by decide +kernel,by decide +kernel⟩
theorem kI {c:Cl}{X:Xc}{f:Addr}{fd:FuncData} (F:Fun K "put_in" "Net.put_in" dY f fd) (O:Cl.Ok K c) (T:TxtL mg) (TG:TxtG mg) (TX:vE K mg X) (D_reads:∀ C,iL c C→Dm P w K mg base 1 C "reads" ["self"] (bG c C))
  (D_Net_listeners:Dm P w K mg base 2 c.net "listeners" ["self"] (cM c)):FnOk P w K mg base (CXE P w) 3 f fd ["self","post"] (cT c X):=by
 obtain⟨tl,hg_MOST_POSTS⟩:=TG.mop
 obtain⟨tn,hg_MOST_LISTENERS⟩:=TG.mol
 refine F.okX sc_Net_put_in (fun vs H Q E h=>?_) (fun cdv A outer s H vs Q E hr h=>?_)
 ·obtain⟨n,dp,dt,a,S,p,rfl,_⟩:=h
  rfl
 ·obtain⟨n,dp,dt,a,S,p,rfl,N,pa,hnew,hz,q1,q2⟩:=h
  have ND:=sc_Net_put_in.nd
  obtain⟨dx,h1⟩:=id N.ins
  obtain⟨kvs,hd,hp⟩:=id N.posts
  obtain⟨a',dxa,ea,ha⟩:=id pa
  cases ea
  have hl:=Paired.length hp
  refine⟨_,(ad (bB (av tN (aB fA rfl T.n_len boot_len (a8 (fW K (pv 0) rfl) ae)) (eh (v:=.int 20) rfl hg_MOST_POSTS ⟨_,rfl⟩) (aE _))
  (af (bq rfl bO rfl TX.c_TooMany TX.x_TooMany))
  aH)
 (ad (bB (PW.pt (fh (dv (fK (pv 1) D_reads (hr.mono (by decide)))) (ef (av tN (aB (j6 K) rfl T.n_len boot_len (a8 (bK (pv 0) D_Net_listeners (hr.mono (by decide))) ae)) (eh (v:=.int 8) rfl hg_MOST_LISTENERS ⟨_,rfl⟩) (aE _)))))
  (af (bq rfl bO rfl TX.c_TooMany TX.x_TooMany))
  aH)
 (af (cw (b7 hr) (fW K (pv 0) rfl) (fW K (pv 1) rfl) (pv 1) rfl)))),?_⟩
  have store:∀ H1,Same H H1→k9 S p.2=false→∃ a_1 H4,V.ref dp=V.ref a_1∧DPut H1 a_1 (.str p.1) (.ref a) H4∧Q .non H4:=fun H1 e1 hf=>by
   have hv:aY kvs (Sum.inr p.1)=none:=by
    cases hs:aY kvs (Sum.inr p.1) with
    | none=>rfl
    | some v=>exact absurd ((gP (x:=p.1) hp).mp (by rw[hs];rfl)) hnew
   refine⟨dp,_,rfl,DPut.k (k:=Sum.inr p.1) (e1 _ _ hd) (by show kvs.length<2 ^ 24;omega),?_⟩
   have b1:But dp H (upd H1 dp (.dK (cz kvs (Sum.inr p.1) (.ref a)))):=fun b o nb hb=>by rw[aa nb];exact e1 _ _ hb
   exact q2 hf _ b1 (N.put hd hp pa b1 (by rw[a9,d0 _ hv]))
  refine⟨_,rfl,n,c.net,dx,_,_,rfl,h1,O.cn,O.fp,rfl,dp,kvs,rfl,hd,_,_,rfl,rfl,_,rfl,bT (fun g1=>?_) (fun g1=>?_)⟩
  ·have g1:20≤S.posts.length:=by have:=of_decide_eq_true g1;omega
   exact q1 (by unfold k9;rw[decide_eq_true g1];rfl) H (Same.refl _)
  ·have g1:¬ 20≤S.posts.length:=fun z=>g1 (decide_eq_true (by omega))
   refine⟨_,rfl,a,c.of p.2,dxa,_,rfl,⟨_,rfl⟩,ha,rfl,_,rfl,_,rfl,?_⟩
   rw[fg O]
   cases hb:rdB p.2 with
   | false=>
    refine bv (bv ?_)
    refine⟨_,rfl,_,rfl,n,c.net,dx,_,_,rfl,h1,O.cn,O.fp,rfl,_,rfl,a,c.of p.2,dxa,_,_,rfl,ha,O.cls _,O.nam _,rfl,?_⟩
    exact store H (Same.refl _) (by unfold k9;rw[decide_eq_false g1,hb];rfl)
   | true=>
    refine ci ⟨_,rfl,n,dx,_,rfl,h1,rfl,n,dp,dt,S,rfl,N,hz,fun l H1 e1 h0 hl1=>?_⟩
    refine⟨l,_,rfl,.inl (SqL.of hl1),_,_,rfl,rfl,_,rfl,bT (fun g2=>?_) (fun g2=>?_)⟩
    ·have g2:8≤S.lis.length:=by have:=of_decide_eq_true g2;rw[List.length_map]at this;omega
     exact q1 (by unfold k9;rw[hb,decide_eq_true g2,Bool.and_self,Bool.or_true]) H1 e1
    ·have g2:¬ 8≤S.lis.length:=fun z=>g2 (decide_eq_true (by rw[List.length_map];omega))
     refine⟨_,rfl,_,rfl,n,c.net,dx,_,_,rfl,e1 _ _ h1,O.cn,O.fp,rfl,_,rfl,a,c.of p.2,dxa,_,_,rfl,e1 _ _ ha,O.cls _,O.nam _,rfl,?_⟩
     exact store H1 e1 (by unfold k9;rw[decide_eq_false g1,decide_eq_false g2,Bool.and_false];rfl)
def due (X:Xc)(S:NS)(x:Str)(k:Kd):Option Addr:=
 if bD x=false then some X.noName else if x∈S.names then some X.taken else if hrB k=false∧S.home.isSome=true then some X.oneHouse else if k9 S k=true then some X.tooMany else none
def cE (c:Cl)(X:Xc)(k:Kd):Sp:=fun vs H Q E=>∃ (n dp dt:Addr)(S:NS)(x:Str),vs=[.ref n,.str x]∧NetAt c H n dp dt S∧x.length≤1000∧S.posts.length≤1000∧
 (∀ r,due X S x k=some r→∀ H',Same H H'→E (.ref r) none H')∧(due X S x k=none→∀ H',But dp H H'→NetAt c H' n dp dt (S.put x k)→Q .non H')
theorem made {c:Cl}{X:Xc}{H:Hp}{n dp dt:Addr}{S:NS}{x:Str}{k:Kd}{Q:VK}{E:XK} (N:NetAt c H n dp dt S) (hz:S.posts.length≤1000) (hi:bD x=true) (hx:¬ x∈S.names) (hh:¬ (hrB k=false∧S.home.isSome=true))
  (q1:∀ r,due X S x k=some r→∀ H',Same H H'→E (.ref r) none H') (q2:due X S x k=none→∀ H',But dp H H'→NetAt c H' n dp dt (S.put x k)→Q .non H') (y dy:Addr) (ny:H y=none) (ndy:H dy=none) (ne:dy≠y):
  cT c X [.ref n,.ref y] (upd (upd (upd H dy (.own y)) y (.ins (c.of k) dy [])) y (.ins (c.of k) dy [("name",.str x)])) Q E:=by
 have e1:Same H (upd (upd (upd H dy (.own y)) y (.ins (c.of k) dy [])) y (.ins (c.of k) dy [("name",.str x)])):=aw (aw (az (Same.refl _) ndy) ny) ny
 have du:due X S x k=if k9 S k=true then some X.tooMany else none:=by
  unfold due
  rw[if_neg (by rw[hi];exact fun z=>nomatch z),if_neg hx,if_neg hh]
 refine⟨n,dp,dt,y,S,(x,k),rfl,N.mono e1,⟨y,dy,rfl,a9⟩,hx,hz,fun hf H' e'=>q1 _ (by rw[du,if_pos hf]) H' (e1.trans e'),fun hf H' b' N'=>q2 (by rw[du,if_neg (by rw[hf];exact fun z=>nomatch z)]) H' ((But.of e1).trans b') N'⟩
abbrev gy:Stmt:=aP (top 27) 2
theorem nk:am ["self","name"] ["self","name"] (ah gy):=⟨rfl,rfl,rfl,by decide +kernel,rfl,by decide +kernel,by decide +kernel⟩
theorem nQ {c:Cl}{X:Xc}{f:Addr}{fd:FuncData} (F:Fun K "post" "Net.post" gy f fd) (O:Cl.Ok K c) (D_Net_check_new_name:DmX P w K mg base 2 c.net "check_new_name" ["self","name"] (jw c X)) (D_Net_put_in:DmX P w K mg base 3 c.net "put_in" ["self","post"] (cT c X))
  (D_Post:Dk P w K mg base 1 "Post" c.post ["self","name"] (cV c)):FnOk P w K mg base (CXE P w) 4 f fd ["self","name"] (cE c X .post):=by
 refine F.okX nk (fun vs H Q E h=>?_) (fun cdv A outer s H vs Q E hr h=>?_)
 ·obtain⟨n,dp,dt,S,x,rfl,_⟩:=h
  rfl
 ·obtain⟨n,dp,dt,S,x,rfl,N,hx,hz,q1,q2⟩:=h
  obtain⟨dx,h1⟩:=id N.ins
  refine⟨_,(ad (aF (bd gF (pv 0) D_Net_check_new_name (hr.mono (by decide)) (a8 (pv 1) ae)))
 (af (aF (bd gF (pv 0) D_Net_put_in (hr.mono (by decide)) (a8 (jG D_Post (hr.mono (by decide)) rfl (a8 (pv 1) ae)) ae))))),?_⟩
  refine⟨_,rfl,n,dx,_,rfl,h1,rfl,_,rfl,n,dp,dt,S,x,rfl,N,hx,fun hi H' e=>q1 _ (by unfold due;rw[if_pos hi]) H' e,fun hi ht H' e=>q1 _ (by unfold due;rw[if_neg (by rw[hi];exact fun z=>nomatch z),if_pos ht]) H' e,fun hi ht H1 e1=>?_⟩
  refine⟨_,rfl,n,dx,_,rfl,e1 _ _ h1,rfl,_,rfl,fun y dy ny ndy ne=>⟨y,.post,dy,x,rfl,a9,rfl,?_⟩⟩
  exact made (N.mono e1) hz hi ht (fun z=>absurd z.1 (by decide)) (fun r hr' H' e'=>q1 r hr' H' (e1.trans e')) (fun hn H' b' N'=>q2 hn H' ((But.of e1).trans b') N') y dy ny ndy ne
abbrev cY:Stmt:=aP (top 27) 3
theorem j2:am ["self","name"] ["self","name"] (ah cY):=⟨rfl,rfl,rfl,by decide +kernel,rfl,by decide +kernel,by decide +kernel⟩
theorem j4 {c:Cl}{X:Xc}{f:Addr}{fd:FuncData} (F:Fun K "listener" "Net.listener" cY f fd) (O:Cl.Ok K c) (D_Net_check_new_name:DmX P w K mg base 2 c.net "check_new_name" ["self","name"] (jw c X)) (D_Net_put_in:DmX P w K mg base 3 c.net "put_in" ["self","post"] (cT c X))
  (D_Listener:Dk P w K mg base 1 "Listener" c.lstn ["self","name"] (cV c)):FnOk P w K mg base (CXE P w) 4 f fd ["self","name"] (cE c X .listener):=by
 refine F.okX j2 (fun vs H Q E h=>?_) (fun cdv A outer s H vs Q E hr h=>?_)
 ·obtain⟨n,dp,dt,S,x,rfl,_⟩:=h
  rfl
 ·obtain⟨n,dp,dt,S,x,rfl,N,hx,hz,q1,q2⟩:=h
  obtain⟨dx,h1⟩:=id N.ins
  refine⟨_,(ad (aF (bd gF (pv 0) D_Net_check_new_name (hr.mono (by decide)) (a8 (pv 1) ae)))
 (af (aF (bd gF (pv 0) D_Net_put_in (hr.mono (by decide)) (a8 (jG D_Listener (hr.mono (by decide)) rfl (a8 (pv 1) ae)) ae))))),?_⟩
  refine⟨_,rfl,n,dx,_,rfl,h1,rfl,_,rfl,n,dp,dt,S,x,rfl,N,hx,fun hi H' e=>q1 _ (by unfold due;rw[if_pos hi]) H' e,fun hi ht H' e=>q1 _ (by unfold due;rw[if_neg (by rw[hi];exact fun z=>nomatch z),if_pos ht]) H' e,fun hi ht H1 e1=>?_⟩
  refine⟨_,rfl,n,dx,_,rfl,e1 _ _ h1,rfl,_,rfl,fun y dy ny ndy ne=>⟨y,.listener,dy,x,rfl,a9,rfl,?_⟩⟩
  exact made (N.mono e1) hz hi ht (fun z=>absurd z.1 (by decide)) (fun r hr' H' e'=>q1 r hr' H' (e1.trans e')) (fun hn H' b' N'=>q2 hn H' ((But.of e1).trans b') N') y dy ny ndy ne
abbrev fc:Stmt:=aP (top 27) 1
theorem m4:am ["self","name"] ["self","name"] (ah fc):=⟨rfl,rfl,rfl,by decide +kernel,rfl,by decide +kernel,by decide +kernel⟩
theorem mD {c:Cl}{X:Xc}{f:Addr}{fd:FuncData} (F:Fun K "house" "Net.house" fc f fd) (O:Cl.Ok K c) (TX:vE K mg X) (D_Net_check_new_name:DmX P w K mg base 2 c.net "check_new_name" ["self","name"] (jw c X)) (D_Net_put_in:DmX P w K mg base 3 c.net "put_in" ["self","post"] (cT c X))
  (D_Net_home:Dm P w K mg base 2 c.net "home" ["self"] (je c)) (D_House:Dk P w K mg base 1 "House" c.house ["self","name"] (cV c)):FnOk P w K mg base (CXE P w) 4 f fd ["self","name"] (cE c X .house):=by
 refine F.okX m4 (fun vs H Q E h=>?_) (fun cdv A outer s H vs Q E hr h=>?_)
 ·obtain⟨n,dp,dt,S,x,rfl,_⟩:=h
  rfl
 ·obtain⟨n,dp,dt,S,x,rfl,N,hx,hz,q1,q2⟩:=h
  obtain⟨dx,h1⟩:=id N.ins
  refine⟨_,(ad (aF (bd gF (pv 0) D_Net_check_new_name (hr.mono (by decide)) (a8 (pv 1) ae)))
 (ad (bB (av qR (bK (pv 0) D_Net_home (hr.mono (by decide))) iy (aE _))
  (af (bq rfl bO rfl TX.c_OneHouse TX.x_OneHouse))
  aH)
 (af (aF (bd gF (pv 0) D_Net_put_in (hr.mono (by decide)) (a8 (jG D_House (hr.mono (by decide)) rfl (a8 (pv 1) ae)) ae)))))),?_⟩
  refine⟨_,rfl,n,dx,_,rfl,h1,rfl,_,rfl,n,dp,dt,S,x,rfl,N,hx,fun hi H' e=>q1 _ (by unfold due;rw[if_pos hi]) H' e,fun hi ht H' e=>q1 _ (by unfold due;rw[if_neg (by rw[hi];exact fun z=>nomatch z),if_pos ht]) H' e,fun hi ht H1 e1=>?_⟩
  refine⟨_,rfl,n,dx,_,rfl,e1 _ _ h1,rfl,n,dp,dt,S,rfl,N.mono e1,rfl,_,rfl,?_⟩
  cases hs:S.home with
  | some p=>
   refine iteNN (fun z=>nomatch z) (q1 _ ?_ H1 e1)
   unfold due
   rw[if_neg (by rw[hi];exact fun z=>nomatch z),if_neg ht,if_pos ⟨rfl,by rw[hs];rfl⟩]
  | none=>
   refine iteNS rfl ?_
   refine⟨_,rfl,n,dx,_,rfl,e1 _ _ h1,rfl,_,rfl,fun y dy ny ndy ne=>⟨y,.house,dy,x,rfl,a9,rfl,?_⟩⟩
   exact made (N.mono e1) hz hi ht (fun z=>by rw[hs]at z;cases z.2) (fun r hr' H' e'=>q1 r hr' H' (e1.trans e')) (fun hn H' b' N'=>q2 hn H' ((But.of e1).trans b') N') y dy ny ndy ne
end
structure vF (mg : Str → Option Value) : Prop where
  n_isinstance : mg "isinstance" = none
  n_int : mg "int" = none
  n_bool : mg "bool" = none
  n_len : mg "len" = none
structure TxtH (mg : Str → Option Value) : Prop where
  mot : ∃ t, mg "MOST_TIES" = some (.int 40 t)
  lod : ∃ t, mg "LONGEST_DELAY" = some (.int 99 t)
structure TxtI (K : PySem.W.Frag) : Prop where
  ii : PySem.W.kitOne K (.type "int") (.type "int") = some true
  ib : PySem.W.kitOne K (.type "int") (.type "bool") = some false
section
variable {P : Program}{w : World}{K : PySem.W.Frag}{mg : Str → Option Value}{base : Heap}
def eQ:Sp:=fun vs H Q _=>∃ i:Int,vs=[.int i]∧Q (.bl true) H
abbrev gr:Stmt:=top 20
theorem n9:am ["number"] ["number"] (ah gr):=⟨rfl,rfl,rfl,by decide +kernel,rfl,by decide +kernel,by decide +kernel⟩
theorem nK {f:Addr}{fd:FuncData} (F:Fun K "is_whole" "is_whole" gr f fd) (T:vF mg) (TI:TxtI K):FnOk P w K mg base CX0 1 f fd ["number"] eQ:=by
 refine F.ok n9 (fun vs H Q E h=>?_) (fun cdv A outer s H vs Q E hr h=>?_)
 ·obtain⟨i,rfl,_⟩:=h
  rfl
 ·obtain⟨i,rfl,q⟩:=h
  refine⟨_,(af (ay (mw (aB (vm K) rfl T.n_isinstance bR (a8 (pv 0) (a8 (jg (v:=.ty "int") rfl T.n_int boot_int rfl) ae))) (mr (pe_not (aB (vm K) rfl T.n_isinstance bR (a8 (pv 0) (a8 (jg (v:=.ty "bool") rfl T.n_bool boot_bool rfl) ae)))))))),?_⟩
  exact⟨_,rfl,.int i,_,_,_,rfl,.int i,TI.ii,_,rfl,ci ⟨_,rfl,.int i,_,_,_,rfl,.int i,TI.ib,_,rfl,q⟩⟩
def cy (i:Int):Bool:=decide (1≤i)&&decide (i≤99)
def eU:Sp:=fun vs H Q _=>∃ i:Int,vs=[.int i]∧Q (.bl (cy i)) H
abbrev gv:Stmt:=top 21
theorem ng:am ["number"] ["number"] (ah gv):=⟨rfl,rfl,rfl,by decide +kernel,rfl,by decide +kernel,by decide +kernel⟩
theorem nM {f:Addr}{fd:FuncData} (F:Fun K "is_delay" "is_delay" gv f fd) (TH:TxtH mg) (D_is_whole:Df P w K mg base 1 "is_whole" ["number"] eQ):FnOk P w K mg base CX0 2 f fd ["number"] eU:=by
 obtain⟨tl,hg_LONGEST_DELAY⟩:=TH.lod
 refine F.ok ng (fun vs H Q E h=>?_) (fun cdv A outer s H vs Q E hr h=>?_)
 ·obtain⟨i,rfl,_⟩:=h
  rfl
 ·obtain⟨i,rfl,q⟩:=h
  refine⟨_,(af (ay (mw (aA D_is_whole (hr.mono (by decide)) rfl (a8 (pv 0) ae)) (mr (nF nH nH aj (pv 0) (eh (v:=.int 99) rfl hg_LONGEST_DELAY ⟨_,rfl⟩)))))),?_⟩
  refine⟨_,rfl,i,rfl,_,rfl,ci ⟨_,rfl,_,_,rfl,rfl,_,rfl,bT (fun h1=>⟨_,_,rfl,rfl,?_⟩) (fun h1=>?_)⟩⟩
  ·have h1:1≤i:=of_decide_eq_true h1
   unfold cy at q
   rw[decide_eq_true h1,Bool.true_and]at q
   exact q
  ·have h1:¬ 1≤i:=fun z=>h1 (decide_eq_true z)
   unfold cy at q
   rw[decide_eq_false h1,Bool.false_and]at q
   exact q
def TiesAt (H:Hp)(l:Addr)(ts:List Tie):Prop:=∃ xs,H l=some (.lst xs)∧Paired (TieAt H) xs ts
theorem l8 {F:V→Tie→Prop}:∀ {vs:List V}{ts:List Tie},vs.length=ts.length→(∀ (i:Nat) v t,vs[i]?=some v→ts[i]?=some t→F v t)→Paired F vs ts
 | [],[],_,_=>.nil
 | v::vs,t::ts,h,k=>.cons (k 0 v t rfl rfl) (l8 (by simpa using h) fun i v' t' h1 h2=>k (i+1) v' t' (by simpa using h1) (by simpa using h2))
 | [],_::_,h,_=>by cases h
 | _::_,[],h,_=>by cases h
def fD (c:Cl):Sp:=fun vs H Q _=>∃ (n dp dt:Addr)(S:NS),vs=[.ref n]∧NetAt c H n dp dt S∧S.ties.length≤1000∧∀ l H',Same H H'→H l=none→TiesAt H' l S.ties→Q (.ref l) H'
abbrev gx:Stmt:=aP (top 27) 14
theorem nj:am ["self"] ["self"] (ah gx):=⟨rfl,rfl,rfl,by decide +kernel,rfl,by decide +kernel,by decide +kernel⟩
theorem nO {c:Cl}{f:Addr}{fd:FuncData} (F:Fun K "ties" "Net.ties" gx f fd) (O:Cl.Ok K c):FnOk P w K mg base CX0 1 f fd ["self"] (fD c):=by
 refine F.ok nj (fun vs H Q E h=>?_) (fun cdv A outer s H vs Q E hr h=>?_)
 ·obtain⟨n,dp,dt,S,rfl,_⟩:=h
  rfl
 ·obtain⟨n,dp,dt,S,rfl,N,hz,q⟩:=h
  refine⟨_,(af (ay (jH rfl (ao (nT:=4) (js:=[]) (N':=["number","one","other","delay"]) rfl rfl (by kernel_rfl)) (mq (fW K (pv 0) rfl))
  (fun _ _ _ _ _=>(gE K (n:=4) rfl (ak (ai (i:=0) (show List.Nodup (["number","one","other","delay"]:List Str) by decide +kernel) rfl (by first|exact Or.inl rfl|exact Or.inr rfl)) (ak (ai (i:=1) (show List.Nodup (["number","one","other","delay"]:List Str) by decide +kernel) rfl (by first|exact Or.inl rfl|exact Or.inr rfl)) (ak (ai (i:=2) (show List.Nodup (["number","one","other","delay"]:List Str) by decide +kernel) rfl (by first|exact Or.inl rfl|exact Or.inr rfl)) (ak (ai (i:=3) (show List.Nodup (["number","one","other","delay"]:List Str) by decide +kernel) rfl (by first|exact Or.inl rfl|exact Or.inr rfl)) bh))))))
  (fun _ _ _ _ _=>aT)
  (fun _ _ _ _ _=>(c6 (a8 (pv 0) (a8 (pv 1) (a8 (pv 2) (a8 (pv 3) ae))))))))),?_⟩
  obtain⟨dx,h1⟩:=N.ins
  obtain⟨kvs,hd,hp⟩:=N.ties
  have hl:=Paired.length hp
  refine⟨_,rfl,n,c.net,dx,_,_,rfl,h1,O.cn,O.ft,rfl,dt,kvs,rfl,hd,fun o M hM=>?_⟩
  rw[qh]
  have row:∀ (i:Nat)(kv:Key×V),kvs[i]?=some kv→∃ t p,S.ties[i]?=some t∧kv.2=.ref p∧upd H dt (.frz o (.dK kvs)) p=some (.tup [.int t.1,.str t.2.1,.str t.2.2.1,.int t.2.2.2]):=fun i kv ek=>by
   obtain⟨t,et,_,p,ep,hp'⟩:=Paired.at hp ek
   exact⟨t,p,et,ep,by rw[aa (bb hp' hd (fun z=>nomatch z))];exact hp'⟩
  refine oX (fun i H v=>∃ t,S.ties[i]?=some t∧TieAt H v t) (fun i H H' v e ⟨t,a,b⟩=>⟨t,a,b.mono e⟩) a9 (by omega) (fun i kv ek=>?_) (fun i kv p x1 x2 x3 x4 H2 ek ep hp' e2=>?_) (fun l H' vs h0 e' hl' vl hv=>?_) (fun i H v l ⟨t,_,b,eb,hb⟩ ⟨ys,hy⟩ z=>?_) (fun i H v l ys ⟨t,a,b,eb,hb⟩ nv=>?_)
  ·obtain⟨t,p,_,ep,hp'⟩:=row i kv ek
   exact⟨p,_,_,_,_,ep,hp'⟩
  ·obtain⟨t,p',et,ep',hp''⟩:=row i kv ek
   rw[ep]at ep'
   cases ep'
   rw[hp']at hp''
   cases hp''
   refine⟨_,rfl,_,rfl,_,rfl,_,rfl,(by show 4≤sizeLine;decide),fun a H5 e5 h05 ha=>⟨⟨t,et,a,rfl,ha⟩,e5⟩⟩
  ·refine⟨dt,o,kvs,hM,e' _ _ a9,q l _ (dJ hd e') ?_ ?_⟩
   ·have nl:l≠dt:=fun z=>by rw[z,a9]at h0;cases h0
    rw[aa nl]at h0
    exact h0
   ·have nl:l≠dt:=fun z=>by rw[z,a9]at h0;cases h0
    refine⟨vs,by rw[aa nl];exact hl',l8 (by omega) fun i v t hv' ht=>?_⟩
    obtain⟨⟨t',et,b,eb,hb⟩,_⟩:=hv i v hv'
    rw[ht]at et
    cases et
    exact⟨b,eb,by rw[aa (bb hb (e' _ _ a9) (fun z=>nomatch z))];exact hb⟩
  ·rw[eb]at z
   cases z
   rw[hb]at hy
   cases hy
  ·exact⟨t,a,b,eb,by rw[aa (fun z=>nv (by rw[eb,z]))];exact hb⟩
end
inductive cL (ts : List Tie) (x : Str) : Str → Prop
  | refl : cL ts x x
  | step {t : Tie} : t ∈ ts → cL ts x t.2.1 → cL ts x t.2.2.1
def fj (R:List Str):HO:=.dK (R.map fun y=>((Sum.inr y:Key),V.bl true))
theorem dO (R:List Str)(y:Str):(aY (R.map fun y=>((Sum.inr y:Key),V.bl true)) (Sum.inr y)).isSome=true ↔ y∈R:=by
 induction R with
 | nil=>simp[aY]
 | cons r R ih=>
  rw[List.map_cons]
  by_cases h:r=y
  ·rw[bU (by rw[h])]
   simp[h]
  ·rw[bV (fun z=>h (Sum.inr.inj z)),ih]
   simp[Ne.symm h]
theorem pV {R:List Str}{y:Str} (h:¬ y∈R):aY (R.map fun y=>((Sum.inr y:Key),V.bl true)) (Sum.inr y)=none:=by
 cases hs:aY (R.map fun y=>((Sum.inr y:Key),V.bl true)) (Sum.inr y) with
 | none=>rfl
 | some v=>exact absurd ((dO R y).mp (by rw[hs];rfl)) h
def dN (ts:List Tie)(R:List Str):Nat:=(ts.filter fun t=>decide (¬ t.2.2.1∈R)).length
theorem v5 (ts:List Tie)(R:List Str)(y:Str):dN ts (R++[y])≤dN ts R:=by
 unfold dN
 induction ts with
 | nil=>exact Nat.le_refl _
 | cons t ts ih=>
  simp only[List.filter_cons,List.mem_append,List.mem_singleton]
  by_cases h:t.2.2.1∈R
  ·simp only[h,true_or,not_true_eq_false,decide_false,Bool.false_eq_true,if_false]
   simpa using ih
  ·by_cases h2:t.2.2.1=y
   ·simp only[h,h2,or_true,not_true_eq_false,decide_false,Bool.false_eq_true,if_false,not_false_eq_true,decide_true,if_true]
    rw[← h2]
    simp only[h,not_false_eq_true,decide_true,if_true,List.length_cons]
    simp only[List.mem_append,List.mem_singleton]at ih
    rw[← h2]at ih
    omega
   ·simp only[h,h2,or_self,not_false_eq_true,decide_true,if_true,List.length_cons]
    simp only[List.mem_append,List.mem_singleton]at ih
    omega
theorem v4 {ts:List Tie}{R:List Str}{t:Tie} (ht:t∈ts) (h:¬ t.2.2.1∈R):dN ts (R++[t.2.2.1])+1≤dN ts R:=by
 induction ts with
 | nil=>cases ht
 | cons u ts ih=>
  have keep:=v5 ts R t.2.2.1
  by_cases hu:u=t
  ·subst hu
   unfold dN at keep ⊢
   simp only[List.filter_cons,List.mem_append,List.mem_singleton,or_true,not_true_eq_false,decide_false,Bool.false_eq_true,if_false,h,not_false_eq_true,decide_true,if_true,List.length_cons]at keep ⊢
   omega
  ·have ht':t∈ts:=by
    rcases List.mem_cons.mp ht with z|z
    ·exact absurd z.symm hu
    ·exact z
   have ih:=ih ht'
   unfold dN at ih ⊢
   simp only[List.filter_cons,List.mem_append,List.mem_singleton]at ih ⊢
   by_cases h1:u.2.2.1∈R
   ·simp only[h1,true_or,not_true_eq_false,decide_false,Bool.false_eq_true,if_false]
    exact ih
   ·by_cases h2:u.2.2.1=t.2.2.1
    ·simp only[h2,h,or_true,not_true_eq_false,decide_false,Bool.false_eq_true,if_false,not_false_eq_true,decide_true,if_true,List.length_cons]
     omega
    ·simp only[h1,h2,or_self,not_false_eq_true,decide_true,if_true,List.length_cons]
     omega
section
variable {P : Program}{w : World}{K : PySem.W.Frag}{mg : Str → Option Value}{base : Heap}
def i9:Sp:=fun vs H Q _=>∃ (l:Addr)(ts:List Tie)(x:Str),vs=[.ref l,.str x]∧TiesAt H l ts∧ts.length≤1000∧∀ d H' R,Same H H'→H d=none→H' d=some (fj R)→(∀ y,y∈R ↔ cL ts x y)→Q (.ref d) H'
abbrev jB:Stmt:=top 22
theorem sc_led_to:am ["ties","start","reached","waiting","name","number","one","other","delay"] ["ties","start"] (ah jB):=⟨rfl,rfl,rfl,by decide +kernel,rfl,by decide +kernel,by decide +kernel⟩
theorem rY {f:Addr}{fd:FuncData} (F:Fun K "led_to" "led_to" jB f fd) (T:vF mg):FnOk P w K mg base CX0 1 f fd ["ties","start"] i9:=by
 refine F.ok sc_led_to (fun vs H Q E h=>?_) (fun cdv A outer s H vs Q E hr h=>?_)
 ·obtain⟨l,ts,x,rfl,_⟩:=h
  rfl
 ·obtain⟨l,ts,x,rfl,⟨xs,hl,hp⟩,hz,q⟩:=h
  have ND:=sc_led_to.nd
  have hxl:=Paired.length hp
  refine⟨_,(ad (au (i:=2) ND rfl (by first|exact Or.inl rfl|exact Or.inr rfl) (v1 (tw (pv 1) dh uV) rfl rfl (fun z=>nomatch z) (by decide)))
 (ad (au (i:=3) ND rfl (by first|exact Or.inl rfl|exact Or.inr rfl) (pe_lst (a8 (pv 1) ae)))
 (ad (gU PassesOwn.never (av tM (aB (j6 K) rfl T.n_len boot_len (a8 (pv 3) ae)) aj (aE _))
  (ad (au (i:=4) ND rfl (by first|exact Or.inl rfl|exact Or.inr rfl) (bm0K K PySem.F.plainAttrs_list PySem.F.slot_list_pop PySem.F.type_list_pop mt_pop (pv 3)))
 (af (bt PassesOwn.never rfl (cS K (pv 0)) (gE K (n:=4) rfl (ak (ai (i:=5) ND rfl (by first|exact Or.inl rfl|exact Or.inr rfl)) (ak (ai (i:=6) ND rfl (by first|exact Or.inl rfl|exact Or.inr rfl)) (ak (ai (i:=7) ND rfl (by first|exact Or.inl rfl|exact Or.inr rfl)) (ak (ai (i:=8) ND rfl (by first|exact Or.inl rfl|exact Or.inr rfl)) bh)))))
  (af (cf (PW.pt (fh (av cJ (pv 6) (pv 4) (aE _)) (ef (mj (kZ (b7 hr) (pv 7) (pv 2))))))
  (ad (cw (b7 hr) (pv 2) (pv 7) dh rfl)
 (af (aF (bmK K PySem.F.plainAttrs_list PySem.F.slot_list_append PySem.F.type_list_append be (pv 3) (a8 (pv 7) ae)))))
  aH))))))
 (af (ay (pv 2)))))),?_⟩
  intro d hd
  refine⟨_,rfl,a9,[(Sum.inr x,.bl true)],rfl,(by show 1≤15;decide),?_⟩
  have e0:upd (upd H d (.dK [])) d (.dK (dw [] [(Sum.inr x,.bl true)]))=upd H d (fj [x]):=by rw[uC];rfl
  rw[e0]
  refine⟨_,rfl,(by show 1≤sizeLine;decide),fun wl hwl=>?_⟩
  have nwd:wl≠d:=fun z=>by rw[z,a9]at hwl;cases hwl
  have hwl0:H wl=none:=by rw[aa nwd]at hwl;exact hwl
  have s0:Same H (upd (upd H d (fj [x])) wl (.lst [.str x])):=aw (az (Same.refl _) hd) hwl0
  refine⟨fun m σ H2=>∃ (R Wt:List Str)(o4 o5 o6 o7 o8:Option V),σ=[some (.ref l),some (.str x),some (.ref d),some (.ref wl),o4,o5,o6,o7,o8]∧Same H H2∧H2 d=some (fj R)∧H2 wl=some (.lst (Wt.map V.str))∧
   x∈R∧(∀ y∈R,cL ts x y)∧(∀ y∈Wt,y∈R)∧(∀ t∈ts,t.2.1∈R→¬ t.2.1∈Wt→t.2.2.1∈R)∧R.length+dN ts R≤1+ts.length∧Wt.length≤R.length∧m=2 * dN ts R+Wt.length,
   ⟨_,[x],[x],none,none,none,none,none,rfl,s0,by rw[aa nwd.symm];exact a9,a9,by simp,fun y hy=>by rw[List.mem_singleton.mp hy];exact .refl,fun y hy=>hy,fun t _ h1 h2=>absurd h1 h2,?_,Nat.le_refl _,rfl⟩,?_⟩
  ·have:dN ts [x]≤ts.length:=List.length_filter_le _ _
   show 1+dN ts [x]≤1+ts.length
   omega
  rintro m σ H2 ⟨R,Wt,o4,o5,o6,o7,o8,rfl,e2,hd2,hw2,xR,ld,wR,cls,bnd,wle,rfl⟩
  refine⟨_,rfl,wl,_,rfl,.inl (SqL.of hw2),_,_,rfl,rfl,_,rfl,bT (fun hc=>?_) (fun hc=>?_)⟩
  ·have hc:0<Wt.length:=by have:=of_decide_eq_true hc;rw[List.length_map]at this;omega
   obtain⟨W',nm,rfl⟩:∃ W' nm,Wt=W'++[nm]:=⟨Wt.dropLast,Wt.getLast (List.ne_nil_of_length_pos hc),(List.dropLast_concat_getLast _).symm⟩
   have nmR:nm∈R:=wR nm (by simp)
   refine⟨fun σ' H'=>∃ m',m'<2 * dN ts R+(W'++[nm]).length∧∃ (R Wt:List Str)(o4 o5 o6 o7 o8:Option V),σ'=[some (.ref l),some (.str x),some (.ref d),some (.ref wl),o4,o5,o6,o7,o8]∧Same H H'∧H' d=some (fj R)∧H' wl=some (.lst (Wt.map V.str))∧
    x∈R∧(∀ y∈R,cL ts x y)∧(∀ y∈Wt,y∈R)∧(∀ t∈ts,t.2.1∈R→¬ t.2.1∈Wt→t.2.2.1∈R)∧R.length+dN ts R≤1+ts.length∧Wt.length≤R.length∧m'=2 * dN ts R+Wt.length,fun σ' H' h=>h,?_⟩
   refine⟨_,rfl,.inl ⟨rfl,_,SqL.of hw2⟩,wl,_,.str nm,rfl,rfl,hw2,?_,?_⟩
   ·rw[List.map_append,List.length_append]
    simp
   have hdrop:((W'++[nm]).map V.str).dropLast=W'.map V.str:=by rw[List.map_append];simp
   rw[hdrop]
   have e3:Same H (upd H2 wl (.lst (W'.map V.str))):=aw e2 hwl0
   refine⟨_,rfl,l,rfl,⟨_,SqL.of (e3 _ _ hl)⟩,bE (K:=K) (xs:=xs) (fun j σ H3=>∃ (R' W1:List Str)(o5 o6 o7 o8:Option V),σ=[some (.ref l),some (.str x),some (.ref d),some (.ref wl),some (.str nm),o5,o6,o7,o8]∧Same H H3∧H3 d=some (fj R')∧H3 wl=some (.lst (W1.map V.str))∧
    x∈R'∧nm∈R'∧(∀ y∈R',cL ts x y)∧(∀ y∈W1,y∈R')∧(∀ t∈ts,t.2.1∈R'→¬ t.2.1∈W1→t.2.1≠nm→t.2.2.1∈R')∧(∀ t∈ts.take j,t.2.1=nm→t.2.2.1∈R')∧R'.length+dN ts R'≤1+ts.length∧W1.length≤R'.length∧2 * dN ts R'+W1.length<2 * dN ts R+(W'++[nm]).length)
    ⟨R,W',_,_,_,_,rfl,e3,by rw[aa nwd.symm];exact hd2,a9,xR,nmR,ld,fun y hy=>wR y (by simp[hy]),fun t ht h1 h2 h3=>cls t ht h1 (fun z=>by rcases List.mem_append.mp z with z|z;exact h2 z;exact h3 (by simpa using z)),fun t ht=>by simp at ht,bnd,?_,?_⟩ (fun j σ H3 _ h=>?_) (fun j v σ H3 ex h=>?_) (fun σ H3 h=>?_)⟩
   ·rw[List.length_append]at wle
    simp at wle
    omega
   ·rw[List.length_append];simp
   ·obtain⟨_,_,_,_,_,_,_,e3',_⟩:=h
    exact SqL.of (e3' _ _ hl)
   ·obtain⟨R',W1,o5,o6,o7,o8,rfl,e4,hd4,hw4,xR4,nm4,ld4,wR4,cls4,done4,bnd4,wle4,ms4⟩:=h
    obtain⟨t,et,p,rfl,hp'⟩:=Paired.at hp ex
    have tm:t∈ts:=List.mem_of_getElem? et
    have tk:ts.take (j+1)=ts.take j++[t]:=by rw[List.take_add_one,et];rfl
    refine⟨p,_,rfl,SqT.of (e4 _ _ hp'),rfl,_,_,rfl,_,_,rfl,_,_,rfl,_,[],rfl,rfl,?_⟩
    have stay:∀ H5,H5=H3→(t.2.1=nm→t.2.2.1∈R')→∃ (R' W1:List Str)(o5 o6 o7 o8:Option V),([some (.ref l),some (.str x),some (.ref d),some (.ref wl),some (.str nm),some (.int t.1),some (.str t.2.1),some (.str t.2.2.1),some (.int t.2.2.2)]:St)=[some (.ref l),some (.str x),some (.ref d),some (.ref wl),some (.str nm),o5,o6,o7,o8]∧Same H H5∧H5 d=some (fj R')∧H5 wl=some (.lst (W1.map V.str))∧
      x∈R'∧nm∈R'∧(∀ y∈R',cL ts x y)∧(∀ y∈W1,y∈R')∧(∀ t∈ts,t.2.1∈R'→¬ t.2.1∈W1→t.2.1≠nm→t.2.2.1∈R')∧(∀ t∈ts.take (j+1),t.2.1=nm→t.2.2.1∈R')∧R'.length+dN ts R'≤1+ts.length∧W1.length≤R'.length∧2 * dN ts R'+W1.length<2 * dN ts R+(W'++[nm]).length:=fun H5 eH ht=>by
     subst eH
     refine⟨R',W1,_,_,_,_,rfl,e4,hd4,hw4,xR4,nm4,ld4,wR4,cls4,fun u hu hun=>?_,bnd4,wle4,ms4⟩
     rw[tk]at hu
     rcases List.mem_append.mp hu with z|z
     ·exact done4 u z hun
     ·rw[List.mem_singleton.mp z]at hun ⊢
      exact ht hun
    refine⟨_,fun σ' H' h=>h,?_⟩
    refine⟨_,rfl,_,rfl,rfl,_,rfl,bT (fun h1=>?_) (fun h1=>bv (stay H3 rfl fun z=>absurd (decide_eq_true (by rw[z])) h1))⟩
    have h1:t.2.1=nm:=by have:=of_decide_eq_true h1;injection this
    refine⟨_,rfl,_,rfl,d,_,rfl,DGet.k (k:=Sum.inr t.2.2.1) hd4,_,rfl,?_⟩
    cases hs:(aY (R'.map fun y=>((Sum.inr y:Key),V.bl true)) (Sum.inr t.2.2.1)).isSome with
    | true=>exact bv (stay H3 rfl fun _=>(dO R' _).mp hs)
    | false=>
     have nin:¬ t.2.2.1∈R':=fun z=>by rw[(dO R' _).mpr z]at hs;cases hs
     refine ci ?_
     refine⟨_,rfl,_,rfl,d,_,rfl,DPut.k (k:=Sum.inr t.2.2.1) hd4 (by rw[List.length_map];show R'.length<2 ^ 24;omega),?_⟩
     rw[d0 _ (pV nin)]
     have hw5:upd H3 d (.dK ((R'.map fun y=>((Sum.inr y:Key),V.bl true))++[(Sum.inr t.2.2.1,.bl true)])) wl=some (.lst (W1.map V.str)):=by rw[aa nwd];exact hw4
     refine⟨_,rfl,.inl ⟨rfl,_,SqL.of hw5⟩,_,rfl,wl,_,_,rfl,rfl,hw5,by rw[List.length_map];show W1.length<2 ^ 24;omega,?_⟩
     have ol:=v4 tm nin
     refine⟨R'++[t.2.2.1],W1++[t.2.2.1],_,_,_,_,rfl,aw (aw e4 hd) hwl0,?_,?_,by simp[xR4],by simp[nm4],fun y hy=>?_,fun y hy=>?_,fun u hu hu1 hu2 hu3=>?_,fun u hu hun=>?_,?_,?_,?_⟩
     ·rw[aa nwd.symm,a9]
      unfold fj
      rw[List.map_append]
      rfl
     ·rw[a9,List.map_append]
      rfl
     ·rcases List.mem_append.mp hy with z|z
      ·exact ld4 y z
      ·rw[List.mem_singleton.mp z]
       exact .step tm (h1▸ld4 nm nm4)
     ·rcases List.mem_append.mp hy with z|z
      ·exact List.mem_append_left _ (wR4 y z)
      ·exact List.mem_append_right _ z
     ·have hu1':u.2.1∈R':=by
       rcases List.mem_append.mp hu1 with z|z
       ·exact z
       ·exact absurd (List.mem_append_right _ z) hu2
      exact List.mem_append_left _ (cls4 u hu hu1' (fun z=>hu2 (List.mem_append_left _ z)) hu3)
     ·rw[tk]at hu
      rcases List.mem_append.mp hu with z|z
      ·exact List.mem_append_left _ (done4 u z hun)
      ·rw[List.mem_singleton.mp z]
       simp
     ·rw[List.length_append]
      show R'.length+1+_≤_
      omega
     ·rw[List.length_append,List.length_append]
      show W1.length+1≤R'.length+1
      omega
     ·have:(W1++[t.2.2.1]).length=W1.length+1:=by simp
      rw[this]
      omega
   ·obtain⟨R',W1,o5,o6,o7,o8,rfl,e4,hd4,hw4,xR4,nm4,ld4,wR4,cls4,done4,bnd4,wle4,ms4⟩:=h
    rw[hxl,List.take_length]at done4
    refine⟨_,ms4,R',W1,_,_,_,_,_,rfl,e4,hd4,hw4,xR4,ld4,wR4,fun t ht h1 h2=>?_,bnd4,wle4,rfl⟩
    by_cases h3:t.2.1=nm
    ·exact done4 t ht h3
    ·exact cls4 t ht h1 h2 h3
  ·have hc:Wt=[]:=by
    cases Wt with
    | nil=>rfl
    | cons y Wt=>exact absurd (decide_eq_true (by rw[List.length_map,List.length_cons];omega)) hc
   subst hc
   refine⟨_,rfl,q d H2 R e2 hd hd2 fun y=>⟨ld y,fun h=>?_⟩⟩
   induction h with
   | refl=>exact xR
   | step ht _ ih=>exact cls _ ht ih (by simp)
end
structure Xt where
  intoHouse : Addr
  ringMade : Addr
  noNumber : Addr
  tooMany : Addr
structure TxtY (K : PySem.W.Frag) (mg : Str → Option Value) (x : Xt) : Prop where
  c_IntoHouse : mg "IntoHouse" = some (.ref x.intoHouse)
  x_IntoHouse : PySem.W.excIn K x.intoHouse bC "ValueError.__new__" = true
  c_RingMade : mg "RingMade" = some (.ref x.ringMade)
  x_RingMade : PySem.W.excIn K x.ringMade bC "ValueError.__new__" = true
  c_NoNumber : mg "NoNumber" = some (.ref x.noNumber)
  x_NoNumber : PySem.W.excIn K x.noNumber bC "ValueError.__new__" = true
  c_TooMany : mg "TooMany" = some (.ref x.tooMany)
  x_TooMany : PySem.W.excIn K x.tooMany bC "ValueError.__new__" = true
section
variable {P : Program}{w : World}{K : PySem.W.Frag}{mg : Str → Option Value}{base : Heap}
def eO (c:Cl):Sp:=fun vs H Q _=>∃ (n dp dt:Addr)(S:NS)(x:Str),vs=[.ref n,.str x]∧NetAt c H n dp dt S∧x∈S.names∧Q .non H
abbrev bX:Stmt:=aP (top 27) 8
theorem gn:am ["self","name"] ["self","name"] (ah bX):=⟨rfl,rfl,rfl,by decide +kernel,rfl,by decide +kernel,by decide +kernel⟩
theorem gG {c:Cl}{f:Addr}{fd:FuncData} (F:Fun K "check_there" "Net.check_there" bX f fd) (O:Cl.Ok K c):FnOk P w K mg base CX0 1 f fd ["self","name"] (eO c):=by
 refine F.ok gn (fun vs H Q E h=>?_) (fun cdv A outer s H vs Q E hr h=>?_)
 ·obtain⟨n,dp,dt,S,x,rfl,_⟩:=h
  rfl
 ·obtain⟨n,dp,dt,S,x,rfl,N,hx,q⟩:=h
  obtain⟨dx,h1⟩:=N.ins
  obtain⟨kvs,hd,hp⟩:=N.posts
  refine⟨_,(af (bB (mj (kZ (b7 hr) (pv 1) (fW K (pv 0) rfl)))
  (af tj)
  aH)),?_⟩
  refine⟨_,rfl,_,rfl,n,c.net,dx,_,_,rfl,h1,O.cn,O.fp,rfl,dp,_,rfl,DGet.k (k:=Sum.inr x) hd,_,rfl,?_⟩
  rw[(gP (x:=x) hp).mpr hx]
  exact bv q
theorem mU {c:Cl}{H:Hp}{x:Str}:∀ {kvs:List (Key×V)}{ps:List (Str×Kd)},Paired (fun (kv:Key×V) p=>kv.1=Sum.inr p.1∧PostAt c H kv.2 p) kvs ps→x∈ps.map (·.1)→∃ v p,aY kvs (Sum.inr x)=some v∧p∈ps∧p.1=x∧PostAt c H v p∧ps.find? (fun p=>decide (p.1=x))=some p
 | _,_,.nil,h=>by simp at h
 | kv::kvs,p::ps,.cons ⟨e,pa⟩ r,h=>by
  by_cases hx:p.1=x
  ·exact⟨kv.2,p,bU (by rw[e,hx]),by simp,hx,pa,by rw[List.find?_cons,decide_eq_true hx]⟩
  ·have h':x∈ps.map (·.1):=by
    rcases List.mem_map.mp h with⟨q,hq,e2⟩
    rcases List.mem_cons.mp hq with z|z
    ·rw[z]at e2;exact absurd e2 hx
    ·exact List.mem_map.mpr ⟨q,z,e2⟩
   obtain⟨v,q,a1,a2,a3,a4,a5⟩:=mU r h'
   exact⟨v,q,by rw[bV (by rw[e];exact fun z=>hx (Sum.inr.inj z))];exact a1,by simp[a2],a3,a4,by rw[List.find?_cons,decide_eq_false hx];exact a5⟩
def NS.kind (S:NS)(x:Str):Kd:=((S.posts.find? fun p=>decide (p.1=x)).map (·.2)).getD .post
def lW (c:Cl)(X:Xt):Sp:=fun vs H Q E=>∃ (n dp dt:Addr)(S:NS)(x y:Str),vs=[.ref n,.str x,.str y]∧NetAt c H n dp dt S∧x∈S.names∧y∈S.names∧S.ties.length≤1000∧
 (hrB (S.kind y)=false→∀ H',Same H H'→E (.ref X.intoHouse) none H')∧(hrB (S.kind y)=true→cL S.ties y x→∀ H',Same H H'→E (.ref X.ringMade) none H')∧(hrB (S.kind y)=true→¬ cL S.ties y x→∀ H',Same H H'→Q .non H')
abbrev cb:Stmt:=aP (top 27) 7
theorem gS:am ["self","one","other"] ["self","one","other"] (ah cb):=⟨rfl,rfl,rfl,by decide +kernel,rfl,by decide +kernel,by decide +kernel⟩
theorem gZ {c:Cl}{X:Xt}{f:Addr}{fd:FuncData} (F:Fun K "check_ends" "Net.check_ends" cb f fd) (O:Cl.Ok K c) (TX:TxtY K mg X) (D_hears:∀ C,iL c C→Dm P w K mg base 1 C "hears" ["self"] (bH c C))
  (D_Net_check_there:Dm P w K mg base 1 c.net "check_there" ["self","name"] (eO c)) (D_Net_ties:Dm P w K mg base 1 c.net "ties" ["self"] (fD c)) (D_led_to:Df P w K mg base 1 "led_to" ["ties","start"] i9):FnOk P w K mg base (CXE P w) 2 f fd ["self","one","other"] (lW c X):=by
 refine F.okX gS (fun vs H Q E h=>?_) (fun cdv A outer s H vs Q E hr h=>?_)
 ·obtain⟨n,dp,dt,S,x,y,rfl,_⟩:=h
  rfl
 ·obtain⟨n,dp,dt,S,x,y,rfl,N,hx,hy,hz,q1,q2,q3⟩:=h
  obtain⟨dx,h1⟩:=id N.ins
  obtain⟨kvs,hd,hp⟩:=id N.posts
  refine⟨_,(ad (aF (cB (pv 0) D_Net_check_there (hr.mono (by decide)) (a8 (pv 1) ae)))
 (ad (aF (cB (pv 0) D_Net_check_there (hr.mono (by decide)) (a8 (pv 2) ae)))
 (ad (bB (gD (dv (fK (bP (b7 hr) (fW K (pv 0) rfl) (pv 2) (fun _ _=>rfl)) D_hears (hr.mono (by decide)))))
  (af (bq rfl bO rfl TX.c_IntoHouse TX.x_IntoHouse))
  aH)
 (af (bB (mj (tI (b7 hr) (pv 1) (aA D_led_to (hr.mono (by decide)) rfl (a8 (bK (pv 0) D_Net_ties (hr.mono (by decide))) (a8 (pv 2) ae)))))
  (af (bq rfl bO rfl TX.c_RingMade TX.x_RingMade))
  aH))))),?_⟩
  refine⟨_,rfl,n,dx,_,rfl,h1,rfl,_,rfl,n,dp,dt,S,x,rfl,N,hx,?_⟩
  refine⟨_,rfl,n,dx,_,rfl,h1,rfl,_,rfl,n,dp,dt,S,y,rfl,N,hy,?_⟩
  obtain⟨v,p,hv,_,_,⟨a,dxa,rfl,ha⟩,hf⟩:=mU hp hy
  have hk:S.kind y=p.2:=by unfold NS.kind;rw[hf];rfl
  refine⟨_,rfl,n,c.net,dx,_,_,rfl,h1,O.cn,O.fp,rfl,_,rfl,dp,_,rfl,hv▸DGet.k (k:=Sum.inr y) hd,a,c.of p.2,dxa,_,rfl,⟨_,rfl⟩,ha,rfl,_,rfl,_,rfl,?_⟩
  rw[fw O,← hk]
  cases hb:hrB (S.kind y) with
  | false=>exact ci (q1 hb H (Same.refl _))
  | true=>
   refine bv ?_
   refine⟨_,rfl,_,rfl,n,dx,_,rfl,h1,rfl,n,dp,dt,S,rfl,N,hz,fun l H1 e1 h01 hl1=>?_⟩
   refine⟨_,rfl,l,S.ties,y,rfl,hl1,hz,fun d H2 R e2 h02 hd2 hR=>?_⟩
   refine⟨d,_,rfl,DGet.k (k:=Sum.inr x) hd2,_,rfl,?_⟩
   cases hs:(aY (R.map fun y=>((Sum.inr y:Key),V.bl true)) (Sum.inr x)).isSome with
   | true=>exact ci (q2 hb ((hR x).mp ((dO R x).mp hs)) H2 (e1.trans e2))
   | false=>exact bv (q3 hb (fun z=>by rw[(dO R x).mpr ((hR x).mpr z)]at hs;cases hs) H2 (e1.trans e2))
end
def NS.tie (S:NS)(x y:Str)(d:Int):NS:={ S with ties:=S.ties++[(S.next,x,y,d)],next:=S.next+1 }
def But2 (n d:Addr)(H H':Hp):Prop:=∀ a o,a≠n→a≠d→H a=some o→H' a=some o
theorem qz {H:Hp}{k:Int}:∀ {kvs:List (Key×V)}{ts:List Tie},Paired (fun (kv:Key×V) (t:Tie)=>kv.1=Sum.inl t.1∧TieAt H kv.2 t) kvs ts→((aY kvs (Sum.inl k)).isSome=true ↔ k∈ts.map (·.1))
 | _,_,.nil=>by simp[aY]
 | kv::kvs,t::ts,.cons ⟨e,_⟩ r=>by
  by_cases h:t.1=k
  ·rw[bU (by rw[e,h])]
   simp[h]
  ·rw[bV (by rw[e];exact fun z=>h (Sum.inl.inj z)),qz r]
   simp[Ne.symm h]
section
variable {P : Program}{w : World}{K : PySem.W.Frag}{mg : Str → Option Value}{base : Heap}
def jv (c:Cl)(X:Xt):Sp:=fun vs H Q E=>∃ (n dp dt:Addr)(S:NS)(x y:Str)(d:Int),vs=[.ref n,.str x,.str y,.int d]∧NetAt c H n dp dt S∧x∈S.names∧y∈S.names∧S.ties.length≤1000∧(∀ t∈S.ties,t.1<S.next)∧
 (hrB (S.kind y)=false→∀ H',Same H H'→E (.ref X.intoHouse) none H')∧(hrB (S.kind y)=true→cL S.ties y x→∀ H',Same H H'→E (.ref X.ringMade) none H')∧
 (hrB (S.kind y)=true→¬ cL S.ties y x→cy d=false→∀ H',Same H H'→E (.ref X.noNumber) none H')∧(hrB (S.kind y)=true→¬ cL S.ties y x→cy d=true→40≤S.ties.length→∀ H',Same H H'→E (.ref X.tooMany) none H')∧
 (hrB (S.kind y)=true→¬ cL S.ties y x→cy d=true→S.ties.length<40→∀ H',But2 n dt H H'→NetAt c H' n dp dt (S.tie x y d)→Q (.int S.next) H')
abbrev fH:Stmt:=aP (top 27) 6
theorem sc_Net_tie:am ["self","one","other","delay","number"] ["self","one","other","delay"] (ah fH):=⟨rfl,rfl,rfl,by decide +kernel,rfl,by decide +kernel,by decide +kernel⟩
theorem jP {c:Cl}{X:Xt}{f:Addr}{fd:FuncData} (F:FunD K "tie" "Net.tie" fH f fd) (O:Cl.Ok K c) (T:vF mg) (TH:TxtH mg) (TX:TxtY K mg X) (D_Net_check_ends:DmX P w K mg base 2 c.net "check_ends" ["self","one","other"] (lW c X)) (D_is_delay:Df P w K mg base 2 "is_delay" ["number"] eU):
  FnOk P w K mg base (CXE P w) 3 f fd ["self","one","other","delay"] (jv c X):=by
 obtain⟨tl,hg_MOST_TIES⟩:=TH.mot
 refine F.okX sc_Net_tie (fun vs H Q E h=>?_) (fun cdv A outer s H vs Q E hr h=>?_)
 ·obtain⟨n,dp,dt,S,x,y,d,rfl,_⟩:=h
  rfl
 ·obtain⟨n,dp,dt,S,x,y,d,rfl,N,hx,hy,hz,hnum,q1,q2,q3,q4,q5⟩:=h
  have ND:=sc_Net_tie.nd
  obtain⟨dx,h1⟩:=id N.ins
  obtain⟨kvs,hd,hp⟩:=id N.ties
  have hl:=Paired.length hp
  refine⟨_,(ad (aF (bd gF (pv 0) D_Net_check_ends (hr.mono (by decide)) (a8 (pv 1) (a8 (pv 2) ae))))
 (ad (bB (gD (dv (aA D_is_delay (hr.mono (by decide)) rfl (a8 (pv 3) ae))))
  (af (bq rfl bO rfl TX.c_NoNumber TX.x_NoNumber))
  aH)
 (ad (bB (av tN (aB fA rfl T.n_len boot_len (a8 (fW K (pv 0) rfl) ae)) (eh (v:=.int 40) rfl hg_MOST_TIES ⟨_,rfl⟩) (aE _))
  (af (bq rfl bO rfl TX.c_TooMany TX.x_TooMany))
  aH)
 (ad (au (i:=4) ND rfl (by first|exact Or.inl rfl|exact Or.inr rfl) (fW K (pv 0) rfl))
 (ad (cw (b7 hr) (fW K (pv 0) rfl) (pv 4) (c6 (a8 (pv 4) (a8 (pv 1) (a8 (pv 2) (a8 (pv 3) ae))))) rfl)
 (ad (iu (pv 0) (ax bS (pv 4) aj) rfl)
 (af (ay (pv 4))))))))),?_⟩
  refine⟨_,rfl,n,dx,_,rfl,h1,rfl,_,rfl,_,rfl,n,dp,dt,S,x,y,rfl,N,hx,hy,hz,q1,q2,fun hb hL H1 e1=>?_⟩
  refine⟨_,rfl,d,rfl,_,rfl,?_⟩
  cases hi:cy d with
  | false=>exact ci (q3 hb hL hi H1 e1)
  | true=>
   refine bv ?_
   refine⟨_,rfl,n,c.net,dx,_,_,rfl,e1 _ _ h1,O.cn,O.ft,rfl,dt,kvs,rfl,e1 _ _ hd,_,_,rfl,rfl,_,rfl,bT (fun g=>?_) (fun g=>?_)⟩
   ·exact q4 hb hL hi (by have:=of_decide_eq_true g;omega) H1 e1
   ·have g:S.ties.length<40:=by
     have:¬ (40:Int)≤(kvs.length:Int):=fun z=>g (decide_eq_true z)
     omega
    refine⟨_,rfl,n,c.net,dx,_,_,rfl,e1 _ _ h1,O.cn,O.fn,rfl,?_⟩
    refine⟨_,rfl,_,rfl,_,rfl,_,rfl,(by show 4≤sizeLine;decide),fun tp H2 e2 h02 htp=>?_⟩
    have e12:=e1.trans e2
    have hv:aY kvs (Sum.inl S.next)=none:=by
     cases hs:aY kvs (Sum.inl S.next) with
     | none=>rfl
     | some v=>
      obtain⟨t,ht,et⟩:=List.mem_map.mp ((qz (k:=S.next) hp).mp (by rw[hs];rfl))
      have:=hnum t ht
      omega
    have nnt:n≠dt:=bb h1 hd (fun z=>nomatch z)
    refine⟨_,rfl,n,c.net,dx,_,_,rfl,e12 _ _ h1,O.cn,O.ft,rfl,_,rfl,dt,_,rfl,DPut.k (k:=Sum.inl S.next) (e12 _ _ hd) (by show kvs.length<2 ^ 24;omega),?_⟩
    rw[d0 _ hv]
    refine⟨_,rfl,_,_,rfl,rfl,_,rfl,n,c.net,dx,_,rfl,by rw[aa nnt];exact e12 _ _ h1,O.cn,O.fn,(by show 3<1000;decide),?_⟩
    have b2:But2 n dt H (upd (upd H2 dt (.dK (kvs++[(Sum.inl S.next,.ref tp)]))) n (.ins c.net dx [("kept_posts",.ref dp),("kept_ties",.ref dt),("next_number",.int (S.next+1))])):=fun a o na nd ha=>by
     rw[aa na,aa nd];exact e12 _ _ ha
    refine⟨_,rfl,q5 hb hL hi g _ b2 ?_⟩
    obtain⟨_,⟨kp,h2,p2⟩,_,h4⟩:=N
    have keepP:∀ {v:V}{q:Str×Kd},PostAt c H v q→v≠.ref n→PostAt c _ v q:=fun {v q} ⟨b,dxb,eb,hb⟩ hne=>⟨b,dxb,eb,b2 b _ (fun z=>hne (by rw[eb,z])) (bb hb hd (fun z=>nomatch z)) hb⟩
    have keepT:∀ {v:V}{t:Tie},TieAt H v t→TieAt _ v t:=fun {v t} ⟨b,eb,hb⟩=>⟨b,eb,b2 b _ (bb hb h1 (fun z=>nomatch z)) (bb hb hd (fun z=>nomatch z)) hb⟩
    have ntp:tp≠n:=(ag (e1 _ _ h1) h02).symm
    have ntd:tp≠dt:=(ag (e1 _ _ hd) h02).symm
    refine⟨⟨dx,a9⟩,⟨kp,b2 dp _ (bb h2 h1 (fun z=>nomatch z)) h4 h2,Paired.mapP p2 fun kv p ⟨a1,a2⟩=>⟨a1,keepP a2 ?_⟩⟩,⟨kvs++[(Sum.inl S.next,.ref tp)],by rw[aa nnt.symm];exact a9,Paired.snoc' (Paired.mapP hp fun _ _ ⟨a1,a2⟩=>⟨a1,keepT a2⟩) ⟨rfl,tp,rfl,?_⟩⟩,h4⟩
    ·obtain⟨b,dxb,eb,hb'⟩:=a2
     rintro z
     rw[z]at eb
     cases eb
     rw[h1]at hb'
     injection hb' with hb'
     injection hb' with _ _ hb'
     cases hb'
    ·rw[aa ntp,aa ntd]
     exact htp
end
section
variable {P : Program}{w : World}{K : PySem.W.Frag}{mg : Str → Option Value}{base : Heap}
end
section
variable {P : Program}{w : World}{K : PySem.W.Frag}{mg : Str → Option Value}{base : Heap}
def NS.into (S:NS)(x:Str):List Int:=(S.ties.filter fun t=>decide (t.2.2.1=x)).map (·.1)
def NS.outOf (S:NS)(x:Str):List Int:=(S.ties.filter fun t=>decide (t.2.1=x)).map (·.1)
theorem fU {α β:Type}{d:α} (f:α→Bool) (g:α→β) (xs:List α):((List.range xs.length).filter fun i=>f (xs.getD i d)).map (fun i=>g (xs.getD i d))=(xs.filter f).map g:=by
 have e:(List.range xs.length).map (fun i=>xs.getD i d)=xs:=by
  have:=pN (xs:=xs) (d:=d) (f:=id)
  simpa using this
 conv=>rhs;rw[← e,List.filter_map,List.map_map]
 rfl
def dg (c:Cl)(f:NS→Str→List Int):Sp:=fun vs H Q _=>∃ (n dp dt:Addr)(S:NS)(x:Str),vs=[.ref n,.str x]∧NetAt c H n dp dt S∧x∈S.names∧S.ties.length≤1000∧∀ l H',Same H H'→H l=none→H' l=some (.lst ((f S x).map V.int))→Q (.ref l) H'
abbrev gz:Stmt:=aP (top 27) 15
theorem nu:am ["self","name"] ["self","name"] (ah gz):=⟨rfl,rfl,rfl,by decide +kernel,rfl,by decide +kernel,by decide +kernel⟩
theorem nR {c:Cl}{f:Addr}{fd:FuncData} (F:Fun K "into" "Net.into" gz f fd) (O:Cl.Ok K c) (D_Net_check_there:Dm P w K mg base 1 c.net "check_there" ["self","name"] (eO c)) (D_Net_ties:Dm P w K mg base 1 c.net "ties" ["self"] (fD c)):
  FnOk P w K mg base CX0 2 f fd ["self","name"] (dg c NS.into):=by
 refine F.ok nu (fun vs H Q E h=>?_) (fun cdv A outer s H vs Q E hr h=>?_)
 ·obtain⟨n,dp,dt,S,x,rfl,_⟩:=h
  rfl
 ·obtain⟨n,dp,dt,S,x,rfl,N,hx,hz,q⟩:=h
  obtain⟨dx,h1⟩:=id N.ins
  refine⟨_,(ad (aF (cB (pv 0) D_Net_check_there (hr.mono (by decide)) (a8 (pv 1) ae)))
 (af (ay (aO rfl (ao (nT:=4) (js:=[1]) (N':=["number","one","other","delay","name"]) rfl rfl (by kernel_rfl)) (cS K (bK (pv 0) D_Net_ties (hr.mono (by decide))))
  (fun _ _ _ _ _=>(gE K (n:=4) rfl (ak (ai (i:=0) (show List.Nodup (["number","one","other","delay","name"]:List Str) by decide +kernel) rfl (by first|exact Or.inl rfl|exact Or.inr rfl)) (ak (ai (i:=1) (show List.Nodup (["number","one","other","delay","name"]:List Str) by decide +kernel) rfl (by first|exact Or.inl rfl|exact Or.inr rfl)) (ak (ai (i:=2) (show List.Nodup (["number","one","other","delay","name"]:List Str) by decide +kernel) rfl (by first|exact Or.inl rfl|exact Or.inr rfl)) (ak (ai (i:=3) (show List.Nodup (["number","one","other","delay","name"]:List Str) by decide +kernel) rfl (by first|exact Or.inl rfl|exact Or.inr rfl)) bh))))))
  (fun _ _ _ _ _=>(gX (av cJ (pv 2) (pv 4) (aE _))))
  (fun _ _ _ _ _=>(pv 0)))))),?_⟩
  refine⟨_,rfl,n,dx,_,rfl,h1,rfl,_,rfl,n,dp,dt,S,x,rfl,N,hx,?_⟩
  refine⟨_,rfl,n,dx,_,rfl,h1,rfl,n,dp,dt,S,rfl,N,hz,fun l1 H1 e1 h01 t1=>?_⟩
  obtain⟨xs,a1,a2⟩:=t1
  have hl:=Paired.length a2
  refine⟨l1,rfl,⟨_,SqL.of a1⟩,j1 (fun i=>decide ((S.ties.getD i (0,"","",0)).2.2.1=x)) (fun i=>.int (S.ties.getD i (0,"","",0)).1) a1 (by omega) (fun i v ev=>?_) (fun i p x1 x2 x3 x4 H2 ev hp e2=>?_) (fun l H' h0 e' hl'=>?_)⟩
  ·obtain⟨t,et,b,rfl,hb⟩:=Paired.at a2 ev
   exact⟨b,_,_,_,_,rfl,hb⟩
  ·obtain⟨t,et,b,eb,hb⟩:=Paired.at a2 ev
   cases eb
   rw[hb]at hp
   injection hp with hp
   injection hp with hp
   injection hp with g1 hp
   injection hp with g2 hp
   injection hp with g3 hp
   subst g1 g2 g3
   have eg:S.ties.getD i (0,"","",0)=t:=by rw[List.getD_eq_getElem?_getD,et];rfl
   rw[eg]
   refine⟨_,rfl,_,rfl,rfl,_,rfl,bT (fun g=>?_) (fun g=>?_)⟩
   ·exact⟨_,rfl,decide_eq_true (by have:=of_decide_eq_true g;injection this),rfl,Same.refl _⟩
   ·exact⟨decide_eq_false (fun z=>g (decide_eq_true (by rw[z]))),Same.refl _⟩
  ·refine q l H' (e1.trans e') ?_ ?_
   ·cases hx':H l with
    | none=>rfl
    | some o=>rw[e1 _ _ hx']at h0;cases h0
   ·rw[hl',hl]
    unfold NS.into
    rw[List.map_map]
    exact congrArg (fun z=>some (HO.lst z)) (fU (fun t=>decide (t.2.2.1=x)) (fun t=>V.int t.1) S.ties)
abbrev dZ:Stmt:=aP (top 27) 16
theorem kD:am ["self","name"] ["self","name"] (ah dZ):=⟨rfl,rfl,rfl,by decide +kernel,rfl,by decide +kernel,by decide +kernel⟩
theorem kJ {c:Cl}{f:Addr}{fd:FuncData} (F:Fun K "out_of" "Net.out_of" dZ f fd) (O:Cl.Ok K c) (D_Net_check_there:Dm P w K mg base 1 c.net "check_there" ["self","name"] (eO c)) (D_Net_ties:Dm P w K mg base 1 c.net "ties" ["self"] (fD c)):
  FnOk P w K mg base CX0 2 f fd ["self","name"] (dg c NS.outOf):=by
 refine F.ok kD (fun vs H Q E h=>?_) (fun cdv A outer s H vs Q E hr h=>?_)
 ·obtain⟨n,dp,dt,S,x,rfl,_⟩:=h
  rfl
 ·obtain⟨n,dp,dt,S,x,rfl,N,hx,hz,q⟩:=h
  obtain⟨dx,h1⟩:=id N.ins
  refine⟨_,(ad (aF (cB (pv 0) D_Net_check_there (hr.mono (by decide)) (a8 (pv 1) ae)))
 (af (ay (aO rfl (ao (nT:=4) (js:=[1]) (N':=["number","one","other","delay","name"]) rfl rfl (by kernel_rfl)) (cS K (bK (pv 0) D_Net_ties (hr.mono (by decide))))
  (fun _ _ _ _ _=>(gE K (n:=4) rfl (ak (ai (i:=0) (show List.Nodup (["number","one","other","delay","name"]:List Str) by decide +kernel) rfl (by first|exact Or.inl rfl|exact Or.inr rfl)) (ak (ai (i:=1) (show List.Nodup (["number","one","other","delay","name"]:List Str) by decide +kernel) rfl (by first|exact Or.inl rfl|exact Or.inr rfl)) (ak (ai (i:=2) (show List.Nodup (["number","one","other","delay","name"]:List Str) by decide +kernel) rfl (by first|exact Or.inl rfl|exact Or.inr rfl)) (ak (ai (i:=3) (show List.Nodup (["number","one","other","delay","name"]:List Str) by decide +kernel) rfl (by first|exact Or.inl rfl|exact Or.inr rfl)) bh))))))
  (fun _ _ _ _ _=>(gX (av cJ (pv 1) (pv 4) (aE _))))
  (fun _ _ _ _ _=>(pv 0)))))),?_⟩
  refine⟨_,rfl,n,dx,_,rfl,h1,rfl,_,rfl,n,dp,dt,S,x,rfl,N,hx,?_⟩
  refine⟨_,rfl,n,dx,_,rfl,h1,rfl,n,dp,dt,S,rfl,N,hz,fun l1 H1 e1 h01 t1=>?_⟩
  obtain⟨xs,a1,a2⟩:=t1
  have hl:=Paired.length a2
  refine⟨l1,rfl,⟨_,SqL.of a1⟩,j1 (fun i=>decide ((S.ties.getD i (0,"","",0)).2.1=x)) (fun i=>.int (S.ties.getD i (0,"","",0)).1) a1 (by omega) (fun i v ev=>?_) (fun i p x1 x2 x3 x4 H2 ev hp e2=>?_) (fun l H' h0 e' hl'=>?_)⟩
  ·obtain⟨t,et,b,rfl,hb⟩:=Paired.at a2 ev
   exact⟨b,_,_,_,_,rfl,hb⟩
  ·obtain⟨t,et,b,eb,hb⟩:=Paired.at a2 ev
   cases eb
   rw[hb]at hp
   injection hp with hp
   injection hp with hp
   injection hp with g1 hp
   injection hp with g2 hp
   subst g1 g2
   have eg:S.ties.getD i (0,"","",0)=t:=by rw[List.getD_eq_getElem?_getD,et];rfl
   rw[eg]
   refine⟨_,rfl,_,rfl,rfl,_,rfl,bT (fun g=>?_) (fun g=>?_)⟩
   ·exact⟨_,rfl,decide_eq_true (by have:=of_decide_eq_true g;injection this),rfl,Same.refl _⟩
   ·exact⟨decide_eq_false (fun z=>g (decide_eq_true (by rw[z]))),Same.refl _⟩
  ·refine q l H' (e1.trans e') ?_ ?_
   ·cases hx':H l with
    | none=>rfl
    | some o=>rw[e1 _ _ hx']at h0;cases h0
   ·rw[hl',hl]
    unfold NS.outOf
    rw[List.map_map]
    exact congrArg (fun z=>some (HO.lst z)) (fU (fun t=>decide (t.2.1=x)) (fun t=>V.int t.1) S.ties)
end
section
variable {P : Program}{w : World}{K : PySem.W.Frag}{mg : Str → Option Value}{base : Heap}
def ia (C:Addr)(f:Str):Sp:=fun vs H Q _=>∃ (ea:Addr)(y:V),vs=[.ref ea,y]∧H ea=some (sE ea C)∧∀ dx,H dx=none→dx≠ea→Q .non (upd (upd H dx (.xd [(f,y)])) ea (uf ea C dx))
abbrev bW:Stmt:=aP (top 11) 0
theorem gl:am ["self","name"] ["self","name"] (ah bW):=⟨rfl,rfl,rfl,by decide +kernel,rfl,by decide +kernel,by decide +kernel⟩
theorem jO {C:Addr}{f:Addr}{fd:FuncData} (F:Fun K "__init__" "NoPost.__init__" bW f fd) (T:vH K C "name"):FnOk P w K mg base CX0 1 f fd ["self","name"] (ia C "name"):=by
 refine F.ok gl (fun vs H Q E h=>?_) (fun cdv A outer s H vs Q E hr h=>?_)
 ·obtain⟨ea,y,rfl,_⟩:=h
  rfl
 ·obtain⟨ea,y,rfl,he,q⟩:=h
  refine⟨_,(af (uU T (pv 0) (pv 1) rfl)),?_⟩
  exact⟨_,rfl,_,rfl,ea,rfl,he,q⟩
end
section
variable {P : Program}{w : World}{K : PySem.W.Frag}{mg : Str → Option Value}{base : Heap}
end
end K42
namespace L2
open PySem PySem.Spec PyProof.Rows
section
variable {K : PySem.W.Frag}{js : List Nat}{te : TE}{σ : St}{F : Addr → Hp → Prop}{H : Hp}
end
end L2
namespace K42
open PySem L2
open PyProof.Rows (boot_list boot_int boot_bool boot_tuple boot_str boot_dict boot_all)
theorem fu (x:Str):∀ zs:List Str,inV (.str x) (zs.map V.str)=decide (x∈zs)
 | []=>by simp[inV]
 | z::zs=>by
  have ih:=fu x zs
  unfold inV at ih ⊢
  rw[List.map_cons,List.any_cons,ih]
  have:eqV (V.str x) (V.str z)=(x==z):=rfl
  rw[Bool.eq_iff_iff]
  simp[eqV]
  exact⟨fun h=>h.imp Eq.symm id,fun h=>h.imp Eq.symm id⟩
theorem fT (zs:List Str):(zs.map V.str).all gb=true:=by
 rw[List.all_map,List.all_eq_true]
 intro z _
 rfl
structure TxtO (mg : Str → Option Value) : Prop where
  n_len : mg "len" = none
  n_all : mg "all" = none
  n_dict : mg "dict" = none
def bY (ts:List Str)(b:Str×List Str):Bool:=!decide (b.1∈ts)&&b.2.all fun y=>decide (y∈ts)
def b3 (bs:List (Str×List Str))(ts:List Str):Option Str:=(bs.find? (bY ts)).map (·.1)
def readyV:Option Str→V
 | none=>.non
 | some x=>.str x
def pi (H:Hp)(d:Addr)(bs:List (Str×List Str)):Prop:=∃ kvs,H d=some (.dK kvs)∧Paired (fun (kv:Key×V) (b:Str×List Str)=>kv.1=Sum.inr b.1∧∃ l,kv.2=.ref l∧H l=some (.lst (b.2.map V.str))) kvs bs
theorem jp {H:Hp}{x:Str}:∀ {kvs:List (Key×V)}{bs:List (Str×List Str)},Paired (fun (kv:Key×V) (b:Str×List Str)=>kv.1=Sum.inr b.1∧∃ l,kv.2=.ref l∧H l=some (.lst (b.2.map V.str))) kvs bs→(bs.map (·.1)).Nodup→∀ {i:Nat}{b:Str×List Str},bs[i]?=some b→b.1=x→∃ l,aY kvs (Sum.inr x)=some (.ref l)∧kvs[i]?=some (Sum.inr x,.ref l)∧H l=some (.lst (b.2.map V.str))
 | _,_,.nil,_,i,b,h,_=>by simp at h
 | kv::kvs,b0::bs,.cons ⟨e,l,el,hl⟩ r,nd,i,b,h,hx=>by
  have nd:=List.nodup_cons.mp (show (b0.1::bs.map (·.1)).Nodup from nd)
  cases i with
  | zero=>
   have h:b0=b:=by simpa using h
   subst h
   refine⟨l,by rw[bU (by rw[e,hx]),el],?_,hl⟩
   show some kv=_
   rw[← hx,← e,← el]
  | succ i=>
   have h:bs[i]?=some b:=by simpa using h
   obtain⟨l',h1,h2,h3⟩:=jp r nd.2 h hx
   refine⟨l',?_,by simpa using h2,h3⟩
   rw[bV (by rw[e];exact fun z=>nd.1 (by rw[Sum.inr.inj z,← hx];exact List.mem_map_of_mem (List.mem_of_getElem? h)))]
   exact h1
section
variable {P : Program}{w : World}{K : PySem.W.Frag}{mg : Str → Option Value}{base : Heap}
def cW:Sp:=fun vs H Q _=>∃ (d t:Addr)(bs:List (Str×List Str))(ts:List Str),vs=[.ref d,.ref t]∧pi H d bs∧H t=some (.lst (ts.map V.str))∧(bs.map (·.1)).Nodup∧(∀ b∈bs,b.2.length≤1000)∧∀ H',Same H H'→Q (readyV (b3 bs ts)) H'
abbrev dm:Stmt:=top 23
theorem sc_first_ready:am ["begins","told","name"] ["begins","told"] (ah dm):=⟨rfl,rfl,rfl,by decide +kernel,rfl,by decide +kernel,by decide +kernel⟩
theorem jM {f:Addr}{fd:FuncData} (F:Fun K "first_ready" "first_ready" dm f fd) (T:TxtO mg):FnOk P w K mg base CX0 1 f fd ["begins","told"] cW:=by
 refine F.ok sc_first_ready (fun vs H Q E h=>?_) (fun cdv A outer s H vs Q E hr h=>?_)
 ·obtain⟨d,t,bs,ts,rfl,_⟩:=h
  rfl
 ·obtain⟨d,t,bs,ts,rfl,⟨kvs,hd,hp⟩,ht,nd,hb,q⟩:=h
  have ND:=sc_first_ready.nd
  have hl:=Paired.length hp
  refine⟨_,(ad (mn PassesOwn.never rfl (qM (pv 0)) (ai (i:=2) ND rfl (by first|exact Or.inl rfl|exact Or.inr rfl))
  (af (bB (PW.pt (fh (av (tS K) (pv 2) (pv 1) (by with_unfolding_all rfl)) (ef (dv (aB (lM K rfl) rfl T.n_all boot_all (a8 (aO rfl (ao (nT:=1) (js:=[1]) (N':=["one","told"]) rfl rfl (by kernel_rfl)) (cS K (bP (b7 hr) (pv 0) (pv 2) (fun _ _=>rfl)))
  (fun _ _ _ _ _=>(ai (i:=0) (show List.Nodup (["one","told"]:List Str) by decide +kernel) rfl (by first|exact Or.inl rfl|exact Or.inr rfl)))
  (fun _ _ _ _ _=>aT)
  (fun _ _ _ _ _=>(mt (inK K) (pv 0) (pv 1) (by with_unfolding_all rfl)))) ae))))))
  (af (ay (pv 2)))
  aH)))
 (af (ay iy))),?_⟩
  refine⟨_,rfl,d,kvs,rfl,hd,fun o M hM=>?_⟩
  rw[u4]
  refine oB (kvs:=kvs) (fun i σ H2=>∃ ov,σ=[some (.ref d),some (.ref t),ov]∧Same (upd H d (.frz o (.dK kvs))) H2∧∀ b∈bs.take i,bY ts b=false) ⟨none,rfl,Same.refl _,by simp⟩ (fun i σ H2 _ ⟨_,_,e,_⟩=>e _ _ a9) (fun i kv σ H2 ek ⟨ov,es,e,hh⟩=>?_) (fun σ H2 ⟨ov,es,e,hh⟩=>?_)
  ·subst es
   obtain⟨b,eb,ekv,l,el,hl'⟩:=Paired.at hp ek
   obtain⟨l2,hv,hkv,hl2⟩:=jp hp nd eb rfl
   have nlt:∀ {x:Addr}{xs:List V},H x=some (.lst xs)→upd H d (.frz o (.dK kvs)) x=some (.lst xs):=fun {x xs} hx=>by rw[aa (bb hx hd (fun z=>nomatch z))];exact hx
   have ht2:=e _ _ (nlt ht)
   have hb2:=e _ _ (nlt hl2)
   have bl:=hb b (List.mem_of_getElem? eb)
   have kvk:kV kv.1=.str b.1:=by rw[ekv];rfl
   rw[kvk]
   have tk:bs.take (i+1)=bs.take i++[b]:=by rw[List.take_add_one,eb];rfl
   have skip:∀ H3,Same H2 H3→bY ts b=false→∃ ov,([some (.ref d),some (.ref t),some (.str b.1)]:St)=[some (.ref d),some (.ref t),ov]∧Same (upd H d (.frz o (.dK kvs))) H3∧∀ b∈bs.take (i+1),bY ts b=false:=fun H3 e3 hr'=>by
    refine⟨_,rfl,e.trans e3,fun b' hb'=>?_⟩
    rw[tk]at hb'
    rcases List.mem_append.mp hb' with z|z
    ·exact hh b' z
    ·rw[List.mem_singleton.mp z];exact hr'
   refine⟨_,rfl,_,rfl,t,_,rfl,.inl (SqL.of ht2),rfl,fT ts,_,rfl,?_⟩
   rw[if_pos rfl,fu]
   by_cases hin:b.1∈ts
   ·rw[decide_eq_true hin]
    exact bv (bv (skip H2 (Same.refl _) (by unfold bY;rw[decide_eq_true hin];rfl)))
   ·rw[decide_eq_false hin]
    refine ci ?_
    refine⟨_,rfl,_,rfl,d,.ref l2,rfl,?_,l2,rfl,⟨_,SqL.of hb2⟩,gM (fun j=>.bl (decide (b.2.getD j ""∈ts))) hb2 (by rw[List.length_map];exact bl) (fun j x H3 ex e3=>?_) (fun lp H3 h03 e3 hlp=>?_)⟩
    ·exact hv▸.inl ⟨kvs,Sum.inr b.1,.inr ⟨o,e _ _ a9⟩,rfl,rfl⟩
    ·obtain⟨y,ey,rfl⟩:∃ y,b.2[j]?=some y∧x=.str y:=by
      rw[List.getElem?_map]at ex
      cases hm:b.2[j]? with
      | none=>rw[hm]at ex;cases ex
      | some m=>rw[hm]at ex;exact⟨m,rfl,by simpa using ex.symm⟩
     have gd:b.2.getD j ""=y:=by rw[List.getD_eq_getElem?_getD,ey];rfl
     refine⟨_,rfl,_,rfl,t,_,rfl,.inl (SqL.of (e3 _ _ ht2)),rfl,fT ts,?_,Same.refl _⟩
     rw[if_neg Bool.false_ne_true,fu,gd]
    ·have hall:(List.range (b.2.map V.str).length).map (fun j=>V.bl (decide (b.2.getD j ""∈ts)))=(b.2.map fun y=>decide (y∈ts)).map V.bl:=by
      rw[List.length_map,List.map_map]
      apply List.ext_getElem
      ·simp
      ·intro j h1 h2
       simp at h1
       simp[List.getD_eq_getElem?_getD,h1]
     rw[hall]at hlp
     refine⟨lp,_,rfl,SqL.of hlp,_,rfl,?_⟩
     have hrb:bY ts b=((b.2.map fun y=>decide (y∈ts)).all id):=by
      unfold bY
      rw[decide_eq_false hin,List.all_map]
      rfl
     cases hr2:(b.2.map fun y=>decide (y∈ts)).all id with
     | false=>exact bv (skip H3 e3 (by rw[hrb,hr2]))
     | true=>
      refine ci ⟨_,rfl,d,o,kvs,hM,e3 _ _ (e _ _ a9),?_⟩
      have:b3 bs ts=some b.1:=by
       unfold b3
       have:bs.find? (bY ts)=some b:=by
        rw[List.find?_eq_some_iff_getElem]
        obtain⟨hi,e2⟩:=List.getElem?_eq_some_iff.mp eb
        refine⟨by rw[hrb,hr2],i,hi,e2,fun j hj=>?_⟩
        rw[hh _ (List.mem_take_iff_getElem.mpr ⟨j,by omega,rfl⟩)]
        rfl
       rw[this]
       rfl
      have q':=q _ (dJ hd (e.trans e3))
      rw[this]at q'
      exact q'
  ·subst es
   refine⟨d,o,kvs,hM,e _ _ a9,?_⟩
   have:b3 bs ts=none:=by
    unfold b3
    have:bs.find? (bY ts)=none:=by
     rw[List.find?_eq_none]
     intro b hbm
     rw[hl,List.take_length]at hh
     rw[hh b hbm]
     exact Bool.false_ne_true
    rw[this]
    rfl
   have q':=q _ (dJ hd e)
   rw[this]at q'
   exact q'
end
end K42
namespace L2
open PySem PySem.Spec PyProof.Rows
section
variable {K : PySem.W.Frag}{js : List Nat}{te : TE}{σ : St}{F : Addr → Hp → Prop}{H : Hp}
theorem qq {pr:Key×V→V}{o:Obj}{d:Addr}{kvs:List (Key×V)} (hfr:H d=some (.frz o (.dK kvs))) (hz:kvs.length≤1000)
  (hs:∀ (i:Nat)(kv:Key×V) H2,kvs[i]?=some kv→Same H H2→te (some (pr kv)::bM σ js) H2 fun v H5=>Same H2 H5∧∃ t e,v=.ref t∧H2 t=none∧H2 e=none∧H5 t=some (.tup [pr kv,.ref e])∧H5 e=some (.lst []))
  (hd:∀ l H' (ts ls:List Addr),H l=none→Same H H'→H' l=some (.lst (ts.map V.ref))→ts.length=kvs.length→ls.length=kvs.length→ls.Nodup→(∀ (i:Nat) kv t e,kvs[i]?=some kv→ts[i]?=some t→ls[i]?=some e→H' t=some (.tup [pr kv,.ref e])∧H' e=some (.lst [])∧H e=none∧e≠l)→F l H'):bw 1 js (bg 0) i8 te σ F (Itp pr o d) H:=by
 intro l hl0
 refine⟨fun i m σ' H2=>m=kvs.length - i∧i≤kvs.length∧(∃ o1,σ'=o1::bM σ js)∧Same H H2∧∃ ts ls:List Addr,ts.length=i∧ls.length=i∧H2 l=some (.lst (ts.map V.ref))∧ls.Nodup∧∀ (j:Nat) kv t e,kvs[j]?=some kv→ts[j]?=some t→ls[j]?=some e→H2 t=some (.tup [pr kv,.ref e])∧H2 e=some (.lst [])∧H e=none∧e≠l,
  ⟨kvs.length,by simp,Nat.zero_le _,⟨none,rfl⟩,az (Same.refl _) hl0,[],[],rfl,rfl,a9,List.nodup_nil,fun j kv t e _ h=>by simp at h⟩,?_⟩
 rintro i m σ' H2 ⟨rfl,hi,⟨o1,rfl⟩,e,ts,ls,htl,hll,hl,nd,hp⟩
 have q:=e _ _ hfr
 by_cases hlt:i<kvs.length
 ·refine .inr ⟨⟨kvs,kvs[i],q,by simp[hlt]⟩,fun x H3 y=>?_⟩
  obtain⟨rfl,y⟩:=y
  obtain⟨kv,e1,rfl⟩:=y kvs q
  refine⟨fun _=>False,fun v H5=>Same H3 H5∧∃ t e,v=.ref t∧H3 t=none∧H3 e=none∧H5 t=some (.tup [pr kv,.ref e])∧H5 e=some (.lst []),fun H4 p4=>p4.elim,fun v H5 ⟨e5,t,ea,ev,ht0,he0,ht,he⟩=>?_,hs i kv H3 e1 e⟩
  subst ev
  have ntl:t≠l:=(ag hl ht0).symm
  have nel:ea≠l:=(ag hl he0).symm
  have nin:ea∉ls:=fun hm=>by
   obtain⟨j,hj⟩:=List.mem_iff_getElem?.mp hm
   have hjl:=(List.getElem?_eq_some_iff.mp hj).1
   obtain⟨h1,h2,_⟩:=hp j kvs[j] ts[j] ea (List.getElem?_eq_getElem (by omega)) (List.getElem?_eq_getElem (by omega)) hj
   rw[he0]at h2
   cases h2
  refine⟨_,e5 _ _ hl,by rw[List.length_map,htl];exact Nat.lt_of_le_of_lt hi (Nat.lt_of_le_of_lt hz (by decide)),_,?_,rfl,hlt,⟨_,rfl⟩,aw (e.trans e5) hl0,ts++[t],ls++[ea],by simp[htl],by simp[hll],by rw[a9,List.map_append];rfl,?_,fun j kv' t' e' h1 h2 h3=>?_⟩
  ·omega
  ·rw[List.nodup_append]
   exact⟨nd,by simp,fun a ha b hb=>by rw[List.mem_singleton.mp hb];exact fun z=>nin (z▸ha)⟩
  ·by_cases c:j<i
   ·rw[List.getElem?_append_left (by omega)]at h2
    rw[List.getElem?_append_left (by omega)]at h3
    obtain⟨g1,g2,g3,g4⟩:=hp j kv' t' e' h1 h2 h3
    refine⟨?_,?_,g3,g4⟩
    ·rw[aa (fun z=>by rw[z,hl]at g1;cases g1)];exact e5 _ _ g1
    ·rw[aa g4];exact e5 _ _ g2
   ·have hj:j=i:=by
     have:=(List.getElem?_eq_some_iff.mp h2).1
     rw[List.length_append,htl]at this
     simp at this
     omega
    subst hj
    rw[List.getElem?_append_right (by omega),htl,Nat.sub_self]at h2
    rw[List.getElem?_append_right (by omega),hll,Nat.sub_self]at h3
    have h2:t=t':=by simpa using h2
    have h3:ea=e':=by simpa using h3
    subst h2 h3
    rw[e1]at h1
    cases h1
    refine⟨by rw[aa ntl];exact ht,by rw[aa nel];exact he,e.free he0,nel⟩
 ·have ei:i=kvs.length:=by omega
  subst ei
  exact .inl ⟨⟨kvs,q,Nat.le_refl _⟩,hd l H2 ts ls hl0 e hl htl hll nd hp⟩
end
theorem eA:∀ (more acc:List (Key×V)),((acc++more).map (·.1)).Nodup→dw acc more=acc++more
 | [],acc,_=>by rw[List.append_nil];rfl
 | p::r,acc,h=>by
  have h0:aY acc p.1=none:=by
   cases hs:aY acc p.1 with
   | none=>rfl
   | some v=>
    unfold aY at hs
    obtain⟨q,hq,_⟩:=Option.map_eq_some_iff.mp hs
    have hm:=List.mem_of_find?_eq_some hq
    have hk:q.1=p.1:=of_decide_eq_true (by have:=List.find?_some hq;exact this)
    rw[List.map_append,List.nodup_append]at h
    exact absurd hk (h.2.2 q.1 (List.mem_map_of_mem hm) p.1 (by simp))
  show dw (cz acc p.1 p.2) r=_
  rw[d0 _ h0,eA r _ (by rw[List.append_assoc];exact h),List.append_assoc]
  rfl
end L2
namespace K42
open PySem L2
open PyProof.Rows (boot_list boot_int boot_bool boot_tuple boot_str boot_dict boot_all)
theorem nX:∀ {xs ys:List Str},xs.Nodup→(∀ x∈xs,x∈ys)→xs.length≤ys.length
 | [],ys,_,_=>Nat.zero_le _
 | x::xs,ys,nd,h=>by
  have nd:=List.nodup_cons.mp nd
  have hx:=h x (by simp)
  have:=nX (ys:=ys.erase x) nd.2 fun y hy=>(List.mem_erase_of_ne (fun z:y=x=>nd.1 (by rw[← z];exact hy))).mpr (h y (by simp[hy]))
  rw[List.length_erase_of_mem hx]at this
  have h1:0<ys.length:=List.length_pos_of_mem hx
  rw[List.length_cons]
  omega
def bL (bs:List (Str×List Str)):Nat→List Str
 | 0=>[]
 | k+1=>bL bs k++[(b3 bs (bL bs k)).getD ""]
structure pj (bs : List (Str × List Str)) : Prop where
  nd : (bs.map (·.1)).Nodup
  ends : ∀ b ∈ bs, ∀ y ∈ b.2, y ∈ bs.map (·.1)
  rk : ∃ rank : Str → Nat, ∀ b ∈ bs, ∀ y ∈ b.2, rank y < rank b.1
theorem ee {bs:List (Str×List Str)}(A:pj bs){ts:List Str}(hlt:ts.length<bs.length):∃ x,b3 bs ts=some x∧x∈bs.map (·.1)∧x∉ts:=by
 obtain⟨rank,hrk⟩:=A.rk
 have one:∃ b∈bs,b.1∉ts:=by
  by_cases h:∃ b∈bs,b.1∉ts
  ·exact h
  ·have hs:∀ x∈bs.map (·.1),x∈ts:=fun x hx=>by
    obtain⟨b,hb,rfl⟩:=List.mem_map.mp hx
    by_cases hh:b.1∈ts
    ·exact hh
    ·exact absurd ⟨b,hb,hh⟩ h
   have:=nX A.nd hs
   rw[List.length_map]at this
   omega
 have key:∀ n,∀ b∈bs,b.1∉ts→rank b.1=n→∃ b'∈bs,bY ts b'=true:=by
  intro n
  induction n using Nat.strongRecOn with
  | ind n ih=>
   intro b hb hbt hn
   by_cases hall:∀ y∈b.2,y∈ts
   ·refine⟨b,hb,?_⟩
    unfold bY
    rw[decide_eq_false hbt]
    simpa using hall
   ·obtain⟨y,hy⟩:=Classical.not_forall.mp hall
    obtain⟨hy1,hy2⟩:=Classical.not_imp.mp hy
    obtain⟨b',hb',e'⟩:=List.mem_map.mp (A.ends b hb y hy1)
    exact ih (rank y) (by rw[← hn];exact hrk b hb y hy1) b' hb' (by rw[e'];exact hy2) (by rw[e'])
 obtain⟨b,hb,hbt⟩:=one
 obtain⟨b',hb',hr'⟩:=key _ b hb hbt rfl
 cases hf:bs.find? (bY ts) with
 | none=>exact absurd hr' (by have:=List.find?_eq_none.mp hf b' hb';simpa using this)
 | some c=>
  have hc:=List.find?_some hf
  refine⟨c.1,by unfold b3;rw[hf];rfl,List.mem_map_of_mem (List.mem_of_find?_eq_some hf),fun z=>?_⟩
  unfold bY at hc
  rw[decide_eq_true z]at hc
  cases hc
theorem iB {bs:List (Str×List Str)}(A:pj bs):∀ k,k≤bs.length→(bL bs k).Nodup∧(bL bs k).length=k
 | 0,_=>⟨List.nodup_nil,rfl⟩
 | k+1,h=>by
  obtain⟨h1,h2⟩:=iB A k (by omega)
  obtain⟨x,e,hx,hn⟩:=ee A (ts:=bL bs k) (by omega)
  refine⟨?_,by simp[bL,h2]⟩
  show (bL bs k++[(b3 bs (bL bs k)).getD ""]).Nodup
  rw[e,List.nodup_append]
  exact⟨h1,by simp,fun a ha b hb=>by rw[List.mem_singleton.mp hb];exact fun z=>hn (by have z:a=x:=z;rw[← z];exact ha)⟩
def c9 (ts:List Tie)(x:Str):List Str:=(ts.filter fun t=>decide (t.2.2.1=x)).map (·.2.1)
def bx (S:NS):List (Str×List Str):=S.names.map fun x=>(x,c9 S.ties x)
theorem p7 (ts:List Tie)(t:Tie)(x:Str):c9 (ts++[t]) x=c9 ts x++(if t.2.2.1=x then [t.2.1] else []):=by
 unfold c9
 rw[List.filter_append,List.map_append]
 congr 1
 by_cases h:t.2.2.1=x
 ·simp[h]
 ·simp[h]
structure BegL (H : Hp) (d : Addr) (names : List Str) (ls : List Addr) (f : Str → List Str) : Prop where
  dict : H d = some (.dK ((names.zip ls).map fun p => (Sum.inr p.1, V.ref p.2)))
  lists : ∀ (i : Nat) x e, names[i]? = some x → ls[i]? = some e → H e = some (.lst ((f x).map V.str))
theorem BegL.at {H:Hp}{d:Addr}{names:List Str}{ls:List Addr}{f:Str→List Str} (h:BegL H d names ls f) (hl:ls.length=names.length):pi H d (names.map fun x=>(x,f x)):=by
 refine⟨_,h.dict,?_⟩
 have:∀ (ns:List Str)(as:List Addr),as.length=ns.length→(∀ (i:Nat) x e,ns[i]?=some x→as[i]?=some e→H e=some (.lst ((f x).map V.str)))→Paired (fun (kv:Key×V) (b:Str×List Str)=>kv.1=Sum.inr b.1∧∃ l,kv.2=.ref l∧H l=some (.lst (b.2.map V.str))) ((ns.zip as).map fun p=>(Sum.inr p.1,V.ref p.2)) (ns.map fun x=>(x,f x)):=by
  intro ns
  induction ns with
  | nil=>intro as _ _;exact .nil
  | cons x ns ih=>
   intro as hl h
   cases as with
   | nil=>cases hl
   | cons e as=>exact .cons ⟨rfl,e,rfl,h 0 x e rfl rfl⟩ (ih as (by simpa using hl) fun i x' e' h1 h2=>h (i+1) x' e' (by simpa using h1) (by simpa using h2))
 exact this names ls hl h.lists
theorem uz {names:List Str}{ls:List Addr} (nd:names.Nodup) {i:Nat}{x:Str}{e:Addr} (hx:names[i]?=some x) (he:ls[i]?=some e):aY ((names.zip ls).map fun p=>((Sum.inr p.1:Key),V.ref p.2)) (Sum.inr x)=some (.ref e):=by
 induction names generalizing ls i with
 | nil=>simp at hx
 | cons y names ih=>
  have nd:=List.nodup_cons.mp nd
  cases ls with
  | nil=>simp at he
  | cons a ls=>
   cases i with
   | zero=>
    have hx:y=x:=by simpa using hx
    have he:a=e:=by simpa using he
    subst hx he
    exact bU rfl
   | succ i=>
    have hx:names[i]?=some x:=by simpa using hx
    rw[List.zip_cons_cons,List.map_cons,bV (fun z=>nd.1 (by have z:y=x:=Sum.inr.inj z;rw[z];exact List.mem_of_getElem? hx))]
    exact ih nd.2 hx (by simpa using he)
theorem lc {α β:Type}{F:α→β→Prop}:∀ {vs:List α}{ts:List β},vs.length=ts.length→(∀ (i:Nat) v t,vs[i]?=some v→ts[i]?=some t→F v t)→Paired F vs ts
 | [],[],_,_=>.nil
 | v::vs,t::ts,h,k=>.cons (k 0 v t rfl rfl) (lc (by simpa using h) fun i v' t' h1 h2=>k (i+1) v' t' (by simpa using h1) (by simpa using h2))
 | [],_::_,h,_=>by cases h
 | _::_,[],h,_=>by cases h
theorem kr (ts:List Tie)(x:Str):(c9 ts x).length≤ts.length:=by
 unfold c9
 rw[List.length_map]
 exact List.length_filter_le _ _
section
variable {P : Program}{w : World}{K : PySem.W.Frag}{mg : Str → Option Value}{base : Heap}
def gj (c:Cl):Sp:=fun vs H Q _=>∃ (n dp dt:Addr)(S:NS),vs=[.ref n]∧NetAt c H n dp dt S∧pj (bx S)∧(∀ t∈S.ties,t.2.2.1∈S.names)∧S.ties.length≤1000∧S.posts.length≤1000∧∀ l H',Same H H'→H l=none→H' l=some (.lst ((bL (bx S) S.names.length).map V.str))→Q (.ref l) H'
abbrev dq:Stmt:=aP (top 27) 17
theorem sc_Net_ordered:am ["self","begins","number","one","other","delay","told"] ["self"] (ah dq):=⟨rfl,rfl,rfl,by decide +kernel,rfl,by decide +kernel,by decide +kernel⟩
theorem jQ {c:Cl}{f:Addr}{fd:FuncData} (F:Fun K "ordered" "Net.ordered" dq f fd) (O:Cl.Ok K c) (T:TxtO mg) (D_Net_ties:Dm P w K mg base 1 c.net "ties" ["self"] (fD c)) (D_first_ready:Df P w K mg base 1 "first_ready" ["begins","told"] cW):FnOk P w K mg base CX0 2 f fd ["self"] (gj c):=by
 refine F.ok sc_Net_ordered (fun vs H Q E h=>?_) (fun cdv A outer s H vs Q E hr h=>?_)
 ·obtain⟨n,dp,dt,S,rfl,_⟩:=h
  rfl
 ·obtain⟨n,dp,dt,S,rfl,N,ac,hends,htz,hpz,q⟩:=h
  have ND:=sc_Net_ordered.nd
  obtain⟨dx,h1⟩:=id N.ins
  obtain⟨kvs,hd,hp⟩:=id N.posts
  have hl:=Paired.length hp
  have nlen:S.names.length=S.posts.length:=by unfold NS.names;rw[List.length_map]
  have bnm:(bx S).map (·.1)=S.names:=by
   unfold bx
   rw[List.map_map]
   exact (List.map_id _)
  have nnd:S.names.Nodup:=by rw[← bnm];exact ac.nd
  refine⟨_,(ad (au (i:=1) ND rfl (by first|exact Or.inl rfl|exact Or.inr rfl) (br (cH rfl) rfl T.n_dict boot_dict (a8 (jH rfl (ao (nT:=1) (js:=[]) (N':=["name"]) rfl rfl (by kernel_rfl)) (qM (fW K (pv 0) rfl))
  (fun _ _ _ _ _=>(ai (i:=0) (show List.Nodup (["name"]:List Str) by decide +kernel) rfl (by first|exact Or.inl rfl|exact Or.inr rfl)))
  (fun _ _ _ _ _=>aT)
  (fun _ _ _ _ _=>(c6 (a8 (pv 0) (a8 (bi ae) ae))))) ae)))
 (ad (bt PassesOwn.never rfl (cS K (bK (pv 0) D_Net_ties (hr.mono (by decide)))) (gE K (n:=4) rfl (ak (ai (i:=2) ND rfl (by first|exact Or.inl rfl|exact Or.inr rfl)) (ak (ai (i:=3) ND rfl (by first|exact Or.inl rfl|exact Or.inr rfl)) (ak (ai (i:=4) ND rfl (by first|exact Or.inl rfl|exact Or.inr rfl)) (ak (ai (i:=5) ND rfl (by first|exact Or.inl rfl|exact Or.inr rfl)) bh)))))
  (af (aF (bmK K PySem.F.plainAttrs_list PySem.F.slot_list_append PySem.F.type_list_append be (bP (b7 hr) (pv 1) (pv 4) (fun _ _=>rfl)) (a8 (pv 3) ae)))))
 (ad (au (i:=6) ND rfl (by first|exact Or.inl rfl|exact Or.inr rfl) (bi ae))
 (ad (gU PassesOwn.never (av jK (aB (j6 K) rfl T.n_len boot_len (a8 (pv 6) ae)) (aB fA rfl T.n_len boot_len (a8 (pv 1) ae)) (aE _))
  (af (aF (bmK K PySem.F.plainAttrs_list PySem.F.slot_list_append PySem.F.type_list_append be (pv 6) (a8 (aA D_first_ready (hr.mono (by decide)) rfl (a8 (pv 1) (a8 (pv 6) ae))) ae)))))
 (af (ay (pv 6))))))),?_⟩
  refine⟨_,rfl,n,c.net,dx,_,_,rfl,h1,O.cn,O.fp,rfl,dp,kvs,rfl,hd,fun o M hM=>?_⟩
  rw[u4]
  refine qq a9 (by omega) (fun i kv H2 ek e2=>?_) (fun l H' ts ls h0 e' hl' tl ll lnd hv=>?_)
  ·exact⟨_,rfl,(by show 0≤sizeLine;decide),fun e H3 e3 h3 he=>⟨(by show 2≤sizeLine;decide),fun t H4 e4 h4 ht=>⟨e3.trans e4,t,e,rfl,e3.free h4,h3,ht,e4 _ _ he⟩⟩⟩
  ·have nl:l≠dp:=fun z=>by rw[z,a9]at h0;cases h0
   refine⟨dp,o,kvs,hM,e' _ _ a9,?_⟩
   have eG:Same H (upd H' dp (.dK kvs)):=dJ hd e'
   have zl:(S.names.zip ls).length=S.names.length:=by rw[List.length_zip];omega
   have kvk:∀ (i:Nat) kv,kvs[i]?=some kv→∃ x,S.names[i]?=some x∧kV kv.1=.str x:=fun i kv ek=>by
    obtain⟨p,ep,e1,_⟩:=Paired.at hp ek
    exact⟨p.1,by unfold NS.names;rw[List.getElem?_map,ep];rfl,by rw[e1];rfl⟩
   have lsN:∀ e∈ls,H' e=some (.lst [])∧upd H dp (.frz o (.dK kvs)) e=none∧e≠l:=fun e hm=>by
    obtain⟨i,hi⟩:=List.mem_iff_getElem?.mp hm
    have hil:=(List.getElem?_eq_some_iff.mp hi).1
    obtain⟨_,g2,g3,g4⟩:=hv i kvs[i] ts[i] e (List.getElem?_eq_getElem (by omega)) (List.getElem?_eq_getElem (by omega)) hi
    exact⟨g2,g3,g4⟩
   have lsd:∀ e∈ls,e≠dp∧H e=none:=fun e hm=>by
    obtain⟨_,g3,_⟩:=lsN e hm
    have ne:e≠dp:=fun z=>by rw[z,a9]at g3;cases g3
    exact⟨ne,by rw[aa ne]at g3;exact g3⟩
   refine⟨l,(S.names.zip ls).map fun p=>(Sum.inr p.1,V.ref p.2),rfl,⟨ts.map V.ref,by rw[aa nl];exact hl',lc (by rw[List.length_map,List.length_map,zl];omega) fun i v kv2 h2 h3=>?_⟩,by rw[List.length_map,zl];omega,fun d G1 e1 h1' hd1=>?_⟩
   ·rw[List.getElem?_map]at h2 h3
    obtain⟨t,et,rfl⟩:=Option.map_eq_some_iff.mp h2
    obtain⟨⟨x,e⟩,exe,rfl⟩:=Option.map_eq_some_iff.mp h3
    obtain⟨hx,he⟩:=List.getElem?_zip_eq_some.mp exe
    have hil:=(List.getElem?_eq_some_iff.mp et).1
    obtain⟨g1,_⟩:=hv i kvs[i] t e (List.getElem?_eq_getElem (by omega)) et he
    obtain⟨x',hx',ekv⟩:=kvk i kvs[i] (List.getElem?_eq_getElem (by omega))
    rw[hx]at hx'
    cases hx'
    refine⟨t,rfl,?_⟩
    rw[aa (fun z=>by rw[z,e' _ _ a9]at g1;cases g1),g1]
    show some (HO.tup [kV kvs[i].1,V.ref e])=_
    rw[ekv]
    rfl
   rw[eA _ [] (by
    rw[List.nil_append,List.map_map]
    have:((fun x:Key×V=>x.1) ∘ fun p:Str×Addr=>((Sum.inr p.1:Key),V.ref p.2))=(fun x:Str=>(Sum.inr x:Key)) ∘ Prod.fst:=rfl
    rw[this,← List.map_map,List.map_fst_zip (by omega)]
    rw[List.nodup_iff_pairwise_ne,List.pairwise_map]
    exact (List.nodup_iff_pairwise_ne.mp nnd).imp fun h z=>h (Sum.inr.inj z)),List.nil_append]at hd1
   have e01:=eG.trans e1
   have B1:BegL G1 d S.names ls (c9 []):=⟨hd1,fun i x e hx he=>e1 _ _ (by rw[aa (lsd e (List.mem_of_getElem? he)).1];exact (lsN e (List.mem_of_getElem? he)).1)⟩
   have hN1:=e01 _ _ h1
   refine⟨_,rfl,n,dx,_,rfl,hN1,rfl,n,dp,dt,S,rfl,N.mono e01,htz,fun lt G2 e2 h2 tt=>?_⟩
   obtain⟨xs,hxs,hxp⟩:=tt
   have hxl:=Paired.length hxp
   have B2:BegL G2 d S.names ls (c9 []):=⟨e2 _ _ B1.dict,fun i x e hx he=>e2 _ _ (B1.lists i x e hx he)⟩
   have lsG:∀ e∈ls,∃ ys,G1 e=some (.lst ys):=fun e hm=>by
    obtain⟨i,hi⟩:=List.mem_iff_getElem?.mp hm
    have hil:=(List.getElem?_eq_some_iff.mp hi).1
    exact⟨_,B1.lists i S.names[i] e (List.getElem?_eq_getElem (by omega)) hi⟩
   have ltn:lt∉ls:=fun hm=>by
    obtain⟨ys,hy⟩:=lsG lt hm
    rw[h2]at hy
    cases hy
   have oth:∀ {a:Addr}{u:HO},G2 a=some u→(∀ ys,u≠.lst ys)→a∉ls:=fun {a u} ha hu hm=>by
    obtain⟨ys,hy⟩:=lsG a hm
    rw[e2 _ _ hy]at ha
    cases ha
    exact hu ys rfl
   have dnl:d∉ls:=oth B2.dict (fun ys z=>nomatch z)
   have sameH:∀ Gj:Hp,(∀ a u,a∉ls→G2 a=some u→Gj a=some u)→Same H Gj:=fun Gj k a u ha=>k a u (fun hm=>by rw[(lsd a hm).2]at ha;cases ha) (e2 _ _ (e01 _ _ ha))
   refine⟨lt,rfl,⟨_,SqL.of hxs⟩,bE (K:=K) (xs:=xs) (fun j σ Gj=>(∃ o2 o3 o4 o5,σ=[some (.ref n),some (.ref d),o2,o3,o4,o5,none])∧(∀ a u,a∉ls→G2 a=some u→Gj a=some u)∧∀ (i:Nat) x e,S.names[i]?=some x→ls[i]?=some e→Gj e=some (.lst ((c9 (S.ties.take j) x).map V.str)))
    ⟨⟨_,_,_,_,rfl⟩,fun a u _ h=>h,fun i x e hx he=>B2.lists i x e hx he⟩ (fun j σ Gj _ h=>SqL.of (h.2.1 _ _ ltn hxs)) ?_ ?_⟩
   ·rintro j v σ Gj ex ⟨⟨o2,o3,o4,o5,rfl⟩,kj,bj⟩
    obtain⟨t,et,b,rfl,hb⟩:=Paired.at hxp ex
    have tk:S.ties.take (j+1)=S.ties.take j++[t]:=by rw[List.take_add_one,et];rfl
    have hj:=(List.getElem?_eq_some_iff.mp et).1
    obtain⟨i,hi⟩:=List.mem_iff_getElem?.mp (hends t (List.mem_of_getElem? et))
    have hil:=(List.getElem?_eq_some_iff.mp hi).1
    obtain⟨e,he⟩:∃ e,ls[i]?=some e:=⟨_,List.getElem?_eq_getElem (by omega)⟩
    have hej:=bj i _ e hi he
    refine⟨b,_,rfl,SqT.of (kj _ _ (oth hb (fun ys z=>nomatch z)) hb),rfl,_,_,rfl,_,_,rfl,_,_,rfl,_,[],rfl,rfl,?_⟩
    refine⟨_,rfl,_,rfl,d,.ref e,rfl,uz nnd hi he▸DGet.k (k:=Sum.inr t.2.2.1) (kj _ _ dnl B2.dict),.inl ⟨rfl,_,SqL.of hej⟩,_,rfl,e,_,_,rfl,rfl,hej,?_,⟨_,_,_,_,rfl⟩,fun a u ha hu=>?_,fun i' x' e' hx' he'=>?_⟩
    ·have h3:=kr (S.ties.take j) t.2.2.1
     rw[List.length_take]at h3
     rw[List.length_map]
     show (c9 (S.ties.take j) t.2.2.1).length<2 ^ 24
     omega
    ·rw[aa (fun z=>ha (by rw[z];exact List.mem_of_getElem? he))]
     exact kj a u ha hu
    ·rw[tk,p7]
     by_cases hii:i'=i
     ·subst hii
      rw[hi]at hx'
      cases hx'
      rw[he]at he'
      cases he'
      rw[a9,if_pos rfl,List.map_append]
      rfl
     ·have hxx:t.2.2.1≠x':=fun z=>hii (by
       have h4:=(List.getElem?_eq_some_iff.mp hx').1
       have h5:S.names[i']=S.names[i]:=by
        rw[(List.getElem?_eq_some_iff.mp hx').2,(List.getElem?_eq_some_iff.mp hi).2,z]
       exact (List.getElem_inj nnd).mp h5)
      have hee:e'≠e:=fun z=>hii (by
       have h4:=(List.getElem?_eq_some_iff.mp he').1
       have h5:ls[i']=ls[i]:=by
        rw[(List.getElem?_eq_some_iff.mp he').2,(List.getElem?_eq_some_iff.mp he).2,z]
       exact (List.getElem_inj lnd).mp h5)
      rw[aa hee,if_neg hxx,List.append_nil]
      exact bj i' x' e' hx' he'
   ·rintro σ Gj ⟨⟨o2,o3,o4,o5,rfl⟩,kj,bj⟩
    rw[hxl,List.take_length]at bj
    have B3:BegL Gj d S.names ls (c9 S.ties):=⟨kj _ _ dnl B2.dict,bj⟩
    have eHj:=sameH Gj kj
    refine⟨(by show 0≤sizeLine;decide),fun lo G3 e3 h3 hlo=>?_⟩
    have bsl:(bx S).length=S.names.length:=by unfold bx;rw[List.length_map]
    refine⟨fun m σ Gk=>∃ k,(∃ o2 o3 o4 o5,σ=[some (.ref n),some (.ref d),o2,o3,o4,o5,some (.ref lo)])∧k≤S.names.length∧m=S.names.length - k∧(∀ a u,a≠lo→G3 a=some u→Gk a=some u)∧Gk lo=some (.lst ((bL (bx S) k).map V.str)),⟨_,0,⟨_,_,_,_,rfl⟩,Nat.zero_le _,rfl,fun a u _ h=>h,hlo⟩,?_⟩
    rintro m σ Gk ⟨k,⟨o2,o3,o4,o5,rfl⟩,hk,rfl,kk,hlk⟩
    obtain⟨on,ol⟩:=iB ac k (by omega)
    have keep3:∀ {a:Addr}{u:HO},Gj a=some u→Gk a=some u:=fun {a u} ha=>kk a u (ag ha h3) (e3 _ _ ha)
    have B4:BegL Gk d S.names ls (c9 S.ties):=⟨keep3 B3.dict,fun i x e hx he=>keep3 (B3.lists i x e hx he)⟩
    refine⟨_,rfl,lo,_,rfl,.inl (SqL.of hlk),_,rfl,d,_,rfl,B4.dict,_,_,rfl,rfl,_,rfl,bT (fun g=>?_) (fun g=>?_)⟩
    ·have g:k<S.names.length:=by
      have:=of_decide_eq_true g
      rw[List.length_map,List.length_map,zl,ol]at this
      omega
     obtain⟨x,ex,hx,hn⟩:=ee ac (ts:=bL (bx S) k) (by omega)
     refine⟨fun σ' G'=>∃ m',m'<S.names.length - k∧∃ k,(∃ o2 o3 o4 o5,σ'=[some (.ref n),some (.ref d),o2,o3,o4,o5,some (.ref lo)])∧k≤S.names.length∧m'=S.names.length - k∧(∀ a u,a≠lo→G3 a=some u→G' a=some u)∧G' lo=some (.lst ((bL (bx S) k).map V.str)),fun σ' H' h=>h,?_⟩
     refine⟨_,rfl,.inl ⟨rfl,_,SqL.of hlk⟩,_,rfl,_,rfl,d,lo,bx S,bL (bx S) k,rfl,?_,hlk,ac.nd,?_,fun G' eg=>?_⟩
     ·exact B4.at (by omega)
     ·intro b hb
      unfold bx at hb
      obtain⟨y,_,rfl⟩:=List.mem_map.mp hb
      exact Nat.le_trans (kr _ _) htz
     ·rw[ex]
      refine⟨lo,_,_,rfl,rfl,eg _ _ hlk,?_,_,?_,k+1,⟨_,_,_,_,rfl⟩,g,rfl,fun a u ha hu=>?_,?_⟩
      ·rw[List.length_map,ol]
       show k<2 ^ 24
       omega
      ·omega
      ·rw[aa ha]
       exact eg _ _ (kk a u ha hu)
      ·rw[a9]
       show _=some (HO.lst ((bL (bx S) k++[(b3 (bx S) (bL (bx S) k)).getD ""]).map V.str))
       rw[ex,List.map_append]
       rfl
    ·have g:k=S.names.length:=by
      have:¬ ((((bL (bx S) k).map V.str).length:Int)<_):=fun z=>g (decide_eq_true z)
      rw[List.length_map,List.length_map,zl,ol]at this
      omega
     subst g
     exact⟨_,rfl,q lo Gk (fun a u ha=>keep3 (eHj a u ha)) (eHj.free h3) hlk⟩
end
theorem mx {bs:List (Str×List Str)}(A:pj bs):∀ k,k≤bs.length→∀ x,x∈bL bs k→x∈bs.map (·.1)
 | 0,_,x,h=>(List.not_mem_nil h).elim
 | k+1,hk,x,h=>by
  obtain⟨y,ey,hy,_⟩:=ee A (ts:=bL bs k) (by rw[(iB A k (by omega)).2];omega)
  unfold bL at h
  rcases List.mem_append.mp h with h|h
  ·exact mx A k (by omega) x h
  ·rw[ey]at h
   have:x=y:=by simpa using h
   rw[this]
   exact hy
section
variable {P : Program}{w : World}{K : PySem.W.Frag}{mg : Str → Option Value}{base : Heap}
abbrev Mix:=Int×Option (List Int)
def MixV (l:Addr)(H:Hp)(m:V):Option (List Int)→Prop
 | none=>m=.non
 | some ks=>∃ q,q≠l∧m=.ref q∧H q=some (.lst (ks.map V.int))
theorem MixV.keep {l:Addr}{H H':Hp} (k:∀ a u,a≠l→H a=some u→H' a=some u) {m:V}:∀ {r:Option (List Int)},MixV l H m r→MixV l H' m r
 | none,h=>h
 | some _,⟨q,nq,e,h⟩=>⟨q,nq,e,k _ _ nq h⟩
def MixAt (l:Addr)(H:Hp)(v:V)(r:Mix):Prop:=∃ p m,p≠l∧v=.ref p∧H p=some (.tup [.int r.1,m])∧MixV l H m r.2
theorem MixAt.keep {l:Addr}{H H':Hp} (k:∀ a u,a≠l→H a=some u→H' a=some u) {v:V}{r:Mix}:MixAt l H v r→MixAt l H' v r:=fun⟨p,m,np,e,h,hm⟩=>⟨p,m,np,e,k _ _ np h,hm.keep k⟩
def cD (S:NS)(x:Str):Option (List Int):=if V.str x=eJ S.home then none else some (S.into x)
def mixes (S:NS)(ns:List Str):List Mix:=ns.flatMap fun x=>(S.outOf x).map fun k=>(k,cD S x)
theorem pW (S:NS)(ns:List Str)(x:Str):mixes S (ns++[x])=mixes S ns++(S.outOf x).map fun k=>(k,cD S x):=by
 unfold mixes
 rw[List.flatMap_append]
 simp
theorem qQ (S:NS)(x:Str):(S.outOf x).length≤S.ties.length:=by
 unfold NS.outOf
 rw[List.length_map]
 exact List.length_filter_le _ _
theorem lm (S:NS)(h:S.ties.length≤1000):∀ ns:List Str,(mixes S ns).length≤ns.length * 1000
 | []=>Nat.le_refl _
 | x::ns=>by
  have ih:=lm S h ns
  have ho:=qQ S x
  have:(mixes S (x::ns)).length=(S.outOf x).length+(mixes S ns).length:=by
   unfold mixes
   rw[List.flatMap_cons,List.length_append,List.length_map]
  rw[this,List.length_cons]
  omega
def fE (c:Cl):Sp:=fun vs H Q _=>∃ (n dp dt:Addr)(S:NS),vs=[.ref n]∧NetAt c H n dp dt S∧pj (bx S)∧(∀ t∈S.ties,t.2.2.1∈S.names)∧S.ties.length≤1000∧S.posts.length≤1000∧
 ∀ l H' xs,Same H H'→H l=none→H' l=some (.lst xs)→Paired (MixAt l H') xs (mixes S (bL (bx S) S.names.length))→Q (.ref l) H'
abbrev dl:Stmt:=top 38
theorem sc_mixing_ties:am ["net","home","told","name","mixed","number"] ["net"] (ah dl):=⟨rfl,rfl,rfl,by decide +kernel,rfl,by decide +kernel,by decide +kernel⟩
theorem jL {c:Cl}{f:Addr}{fd:FuncData} (F:Fun K "mixing_ties" "mixing_ties" dl f fd) (O:Cl.Ok K c) (D_Net_home:Dm P w K mg base 2 c.net "home" ["self"] (je c)) (D_Net_ordered:Dm P w K mg base 2 c.net "ordered" ["self"] (gj c))
  (D_Net_into:Dm P w K mg base 2 c.net "into" ["self","name"] (dg c NS.into)) (D_Net_out_of:Dm P w K mg base 2 c.net "out_of" ["self","name"] (dg c NS.outOf)):FnOk P w K mg base CX0 3 f fd ["net"] (fE c):=by
 refine F.ok sc_mixing_ties (fun vs H Q E h=>?_) (fun cdv A outer s H vs Q E hr h=>?_)
 ·obtain⟨n,dp,dt,S,rfl,_⟩:=h
  rfl
 ·obtain⟨n,dp,dt,S,rfl,N,ac,hends,htz,hpz,q⟩:=h
  have ND:=sc_mixing_ties.nd
  obtain⟨dx,h1⟩:=id N.ins
  have nlen:S.names.length≤1000:=by unfold NS.names;rw[List.length_map];exact hpz
  have bsl:(bx S).length=S.names.length:=List.length_map _
  have bnm:(bx S).map (·.1)=S.names:=by
   unfold bx
   rw[List.map_map]
   exact List.map_id _
  have olen:=(iB ac S.names.length (by omega)).2
  have omem:∀ x∈bL (bx S) S.names.length,x∈S.names:=fun x hx=>bnm▸mx ac _ (by omega) x hx
  refine⟨_,(ad (au (i:=1) ND rfl (by first|exact Or.inl rfl|exact Or.inr rfl) (bK (pv 0) D_Net_home (hr.mono (by decide))))
 (ad (au (i:=2) ND rfl (by first|exact Or.inl rfl|exact Or.inr rfl) (bi ae))
 (ad (bt PassesOwn.never rfl (cS K (bK (pv 0) D_Net_ordered (hr.mono (by decide)))) (ai (i:=3) ND rfl (by first|exact Or.inl rfl|exact Or.inr rfl))
  (ad (au (i:=4) ND rfl (by first|exact Or.inl rfl|exact Or.inr rfl) (nE (av cJ (pv 3) (pv 1) (aE _)) iy (cB (pv 0) D_Net_into (hr.mono (by decide)) (a8 (pv 3) ae))))
 (af (bt PassesOwn.never rfl (cS K (cB (pv 0) D_Net_out_of (hr.mono (by decide)) (a8 (pv 3) ae))) (ai (i:=5) ND rfl (by first|exact Or.inl rfl|exact Or.inr rfl))
  (af (aF (bmK K PySem.F.plainAttrs_list PySem.F.slot_list_append PySem.F.type_list_append be (pv 2) (a8 (c6 (a8 (pv 5) (a8 (pv 4) ae))) ae))))))))
 (af (ay (pv 2)))))),?_⟩
  refine⟨_,rfl,n,dx,_,rfl,h1,rfl,n,dp,dt,S,rfl,N,?_⟩
  refine⟨(by show 0≤sizeLine;decide),fun l H1 e1 hl1 hl=>?_⟩
  refine⟨_,rfl,n,dx,_,rfl,e1 _ _ h1,rfl,n,dp,dt,S,rfl,N.mono e1,ac,hends,htz,hpz,fun lo H2 e2 h2 hlo=>?_⟩
  have e02:=e1.trans e2
  have hl2:=e2 _ _ hl
  have nlo:lo≠l:=(ag hl h2).symm
  have old:∀ {a:Addr}{u:HO},H a=some u→a≠l:=fun ha=>ag ha hl1
  generalize bL (bx S) S.names.length=ord at q olen omem hlo
  have hsc:∀ x:Str,scal (.str x) (eJ S.home)=true:=fun x=>by
   cases S.home with
   | none=>rfl
   | some p=>rfl
  have ordl:ord.length≤1000:=by omega
  refine⟨lo,rfl,⟨_,SqL.of hlo⟩,bE (K:=K) (xs:=ord.map V.str) (fun i σ G=>(∃ o3 o4 o5,σ=[some (.ref n),some (eJ S.home),some (.ref l),o3,o4,o5])∧(∀ a u,a≠l→H2 a=some u→G a=some u)∧∃ xs,G l=some (.lst xs)∧Paired (MixAt l G) xs (mixes S (ord.take i)))
   ⟨⟨_,_,_,rfl⟩,fun _ _ _ h=>h,[],hl2,by rw[List.take_zero];exact .nil⟩ (fun i σ G _ h=>SqL.of (h.2.1 _ _ nlo hlo)) ?_ ?_⟩
  ·rintro i v σ G ev ⟨⟨o3,o4,o5,rfl⟩,kG,xs,hG,pG⟩
   obtain⟨x,ex,rfl⟩:∃ m,ord[i]?=some m∧v=.str m:=by
    rw[List.getElem?_map]at ev
    cases hm:ord[i]? with
    | none=>rw[hm]at ev;cases ev
    | some m=>rw[hm]at ev;exact⟨m,rfl,by simpa using ev.symm⟩
   have hx:x∈S.names:=omem x (List.mem_of_getElem? ex)
   have hil:i<ord.length:=(List.getElem?_eq_some_iff.mp ex).1
   have tk:ord.take (i+1)=ord.take i++[x]:=by rw[List.take_add_one,ex];rfl
   have toG:∀ {a:Addr}{u:HO},H a=some u→G a=some u:=fun ha=>kG _ _ (old ha) (e02 _ _ ha)
   have NG:NetAt c G n dp dt S:=N.mono fun a u ha=>toG ha
   have rest:∀ (m:V)(H4:Hp)(D:fX),(∀ σ G',((∃ o3 o4 o5,σ=[some (.ref n),some (eJ S.home),some (.ref l),o3,o4,o5])∧(∀ a u,a≠l→H2 a=some u→G' a=some u)∧∃ xs,G' l=some (.lst xs)∧Paired (MixAt l G') xs (mixes S (ord.take (i+1))))→D.nx σ G')→Same G H4→MixV l H4 m (cD S x)→
     tFor (u7 K (mX c.net "out_of" (dg c NS.outOf) [] E0 (gf 0) (eN (gf 3) kx))) (bg 5) (tDrop (tBM K "list" qJ (gf 2) (eN (tTupS (eN (gf 5) (eN (gf 4) kx))) kx))) D [some (.ref n),some (eJ S.home),some (.ref l),some (.str x),some m,o5] H4:=fun m H4 D hD e4 hm=>by
    refine⟨_,rfl,n,dx,_,rfl,e4 _ _ (toG h1),rfl,_,rfl,n,dp,dt,S,x,rfl,NG.mono e4,hx,htz,fun lk H5 e5 h5 hlk=>?_⟩
    have e45:=e4.trans e5
    have nlk:lk≠l:=(ag (e4 _ _ hG) h5).symm
    refine⟨lk,rfl,⟨_,SqL.of hlk⟩,bE (K:=K) (xs:=(S.outOf x).map V.int) (fun j σ G'=>(∃ o5,σ=[some (.ref n),some (eJ S.home),some (.ref l),some (.str x),some m,o5])∧(∀ a u,a≠l→H5 a=some u→G' a=some u)∧∃ ys,G' l=some (.lst ys)∧Paired (MixAt l G') ys (mixes S (ord.take i)++((S.outOf x).take j).map fun k=>(k,cD S x)))
     ⟨⟨_,rfl⟩,fun _ _ _ h=>h,xs,e45 _ _ hG,?_⟩ (fun j σ G' _ h=>SqL.of (h.2.1 _ _ nlk hlk)) ?_ ?_⟩
    ·rw[List.take_zero,List.map_nil,List.append_nil]
     exact Paired.mapP pG fun _ _ h=>h.keep fun a u _ ha=>e45 _ _ ha
    ·rintro j v σ G' ev ⟨⟨o5',rfl⟩,kG',ys,hys,pys⟩
     obtain⟨kk,ek,rfl⟩:∃ m,(S.outOf x)[j]?=some m∧v=.int m:=by
      rw[List.getElem?_map]at ev
      cases hm:(S.outOf x)[j]? with
      | none=>rw[hm]at ev;cases ev
      | some m=>rw[hm]at ev;exact⟨m,rfl,by simpa using ev.symm⟩
     have tkj:(S.outOf x).take (j+1)=(S.outOf x).take j++[kk]:=by rw[List.take_add_one,ek];rfl
     refine⟨_,rfl,.inl ⟨rfl,_,SqL.of hys⟩,_,rfl,_,rfl,(by show 2≤sizeLine;decide),fun p H6 e6 h6 hp=>?_⟩
     have np:p≠l:=(ag hys h6).symm
     refine⟨l,_,_,rfl,rfl,e6 _ _ hys,?_,⟨_,rfl⟩,fun a u na ha=>?_,_,a9,?_⟩
     ·have h7:=Paired.length pys
      have h8:=lm S htz (ord.take i)
      have h9:=qQ S x
      rw[List.length_append,List.length_map,List.length_take]at h7
      rw[List.length_take]at h8
      show _<2 ^ 24
      have:min i ord.length * 1000≤1000 * 1000:=Nat.mul_le_mul_right _ (by omega)
      omega
     ·rw[aa na]
      exact e6 _ _ (kG' a u na ha)
     ·rw[tkj,List.map_append,← List.append_assoc]
      refine Paired.snoc' (Paired.mapP pys fun _ _ h=>h.keep fun a u na ha=>by rw[aa na];exact e6 _ _ ha) ⟨p,m,np,rfl,by rw[aa np];exact hp,hm.keep fun a u na ha=>?_⟩
      rw[aa na]
      exact e6 _ _ (kG' a u na (e5 _ _ ha))
    ·rintro σ G' ⟨⟨o5',rfl⟩,kG',ys,hys,pys⟩
     refine hD _ _ ⟨⟨_,_,_,rfl⟩,fun a u na ha=>kG' a u na (e45 _ _ (kG a u na ha)),ys,hys,?_⟩
     rw[tk,pW]
     rw[List.length_map,List.take_length]at pys
     exact pys
   refine⟨_,rfl,_,rfl,hsc x,_,rfl,bT (fun g=>?_) (fun g=>?_)⟩
   ·have g:V.str x=eJ S.home:=of_decide_eq_true g
    refine rest .non G _ (fun _ _ h=>h) (Same.refl _) ?_
    unfold cD
    rw[if_pos g]
    exact rfl
   ·have g:¬ V.str x=eJ S.home:=fun z=>g (decide_eq_true z)
    refine⟨_,rfl,n,dx,_,rfl,toG h1,rfl,_,rfl,n,dp,dt,S,x,rfl,NG,hx,htz,fun li H4 e4 h4 hli=>?_⟩
    refine rest (.ref li) H4 _ (fun _ _ h=>h) e4 ?_
    unfold cD
    rw[if_neg g]
    exact⟨li,(ag hG h4).symm,rfl,hli⟩
  ·rintro σ G ⟨⟨o3,o4,o5,rfl⟩,kG,xs,hG,pG⟩
   rw[List.length_map,List.take_length]at pG
   exact⟨_,rfl,q l G xs (fun a u ha=>kG _ _ (old ha) (e02 _ _ ha)) hl1 hG pG⟩
end
end K42
namespace L2
open PySem PySem.Spec PyProof.Rows
section
variable {K : PySem.W.Frag}{js : List Nat}{te : TE}{σ : St}{F : Addr → Hp → Prop}{H : Hp}
def TupsAt (H:Hp)(l:Addr)(gs:List (List V)):Prop:=∃ xs,H l=some (.lst xs)∧Paired (fun v g=>∃ b,v=.ref b∧H b=some (.tup g)) xs gs
theorem TupsAt.snoc {H:Hp}{l b:Addr}{gs:List (List V)}{xs:List V}{g:List V} (h1:H l=some (.lst xs)) (h2:Paired (fun v g=>∃ b,v=.ref b∧H b=some (.tup g)) xs gs) (hb:H b=some (.tup g)):TupsAt (upd H l (.lst (xs++[.ref b]))) l (gs++[g]):=by
 have keep:∀ {b:Addr}{g:List V},H b=some (.tup g)→(upd H l (.lst (xs++[.ref b]))) b=some (.tup g):=fun {b g} hb=>by
  rw[aa (fun z=>by rw[z,h1]at hb;cases hb)];exact hb
 refine⟨_,a9,Paired.snoc' (Paired.mapP h2 fun v g ⟨b,e,hb⟩=>⟨b,e,?_⟩) ⟨b,rfl,?_⟩⟩
 ·rw[aa (fun z=>by rw[z,h1]at hb;cases hb)];exact hb
 ·rw[aa (fun z=>by rw[z,h1]at hb;cases hb)];exact hb
theorem oU {a:Addr}{xs:List V} (gs:List (List V)) (hg:gs.length=xs.length) (ha:H a=some (.lst xs)) (hz:xs.length≤1000)
  (hs:∀ (i:Nat)(x:V) g H2,xs[i]?=some x→gs[i]?=some g→Same H H2→te (some x::bM σ js) H2 fun v H5=>(∃ b,v=.ref b∧H5 b=some (.tup g))∧Same H2 H5)
  (hd:∀ l H',H l=none→Same H H'→TupsAt H' l gs→F l H'):bw 1 js (bg 0) i8 te σ F (Itl K a) H:=by
 intro l hl0
 refine⟨fun i m σ' H2=>m=xs.length - i∧i≤xs.length∧(∃ o,σ'=o::bM σ js)∧Same H H2∧TupsAt H2 l (gs.take i),⟨xs.length,by simp,Nat.zero_le _,⟨none,rfl⟩,az (Same.refl _) hl0,[],a9,by rw[List.take_zero];exact .nil⟩,?_⟩
 rintro i m σ' H2 ⟨rfl,hi,⟨o',rfl⟩,e,tl⟩
 have q:SqL K H2 a xs:=SqL.of (e _ _ ha)
 by_cases hlt:i<xs.length
 ·refine .inr ⟨⟨xs,xs[i],q,by simp[hlt]⟩,fun x H3 y=>?_⟩
  obtain⟨rfl,y⟩:=y
  have hgi:gs[i]?=some gs[i]:=List.getElem?_eq_getElem (by omega)
  refine⟨fun H4=>False,fun v H5=>(∃ b,v=.ref b∧H5 b=some (.tup gs[i]))∧Same H3 H5,fun H4 z=>z.elim,fun v H5 ⟨⟨b,ev,hb⟩,e5⟩=>?_,hs i x _ H3 (y xs q) hgi e⟩
  subst ev
  obtain⟨ys,h1,h2⟩:=tl
  have h1':=e5 _ _ h1
  have hyl:=Paired.length h2
  rw[List.length_take]at hyl
  refine⟨ys,h1',by have e:sizeLine=2 ^ 24:=rfl;omega,_,?_,rfl,hlt,⟨_,rfl⟩,aw (e.trans e5) hl0,?_⟩
  ·omega
  ·rw[List.take_add_one,hgi]
   exact TupsAt.snoc h1' (Paired.mapP h2 fun v g ⟨b,e,hb⟩=>⟨b,e,e5 _ _ hb⟩) hb
 ·have ei:i=xs.length:=by omega
  subst ei
  rw[← hg,List.take_length]at tl
  exact .inl ⟨⟨xs,q,Nat.le_refl _⟩,hd l H2 hl0 e tl⟩
end
end L2
namespace K42
open PySem L2
open PyProof.Rows (boot_list boot_int boot_bool boot_tuple boot_str boot_dict boot_all boot_sorted)
structure TxtB (mg : Str → Option Value) : Prop where
  n_dict : mg "dict" = none
  n_sorted : mg "sorted" = none
section
variable {P : Program}{w : World}{K : PySem.W.Frag}{mg : Str → Option Value}{base : Heap}
theorem jI {α β γ δ:Type}{F:α→γ→Prop}{G:α→δ→Prop}{f:β→γ}{g:β→δ}:∀ {xs:List α}{ys:List β},Paired F xs (ys.map f)→(∀ a b,F a (f b)→G a (g b))→Paired G xs (ys.map g)
 | [],[],_,_=>.nil
 | _::_,_::_,.cons h r,k=>.cons (k _ _ h) (jI r k)
theorem qA:∀ {kvs:List (Key×V)}{k:Key},k∈kvs.map (·.1)→∃ v,aY kvs k=some v
 | [],_,h=>(List.not_mem_nil h).elim
 | kv::kvs,k,h=>by
  by_cases e:kv.1=k
  ·exact⟨kv.2,by simp[aY,e]⟩
  ·have:k∈kvs.map (·.1):=by
    rcases List.mem_cons.mp h with z|z
    ·exact absurd z.symm e
    ·exact z
   obtain⟨v,hv⟩:=qA this
   exact⟨v,by simpa [aY,e] using hv⟩
def cO (kvs:List (Key×V))(ns:List Int):List (Key×V):=ns.map fun n=>((Sum.inl n:Key),(aY kvs (Sum.inl n)).getD .non)
def cN:Sp:=fun vs H Q _=>∃ (d:Addr)(kvs:List (Key×V))(ns:List Int),vs=[.ref d]∧H d=some (.dK kvs)∧kvs.map (·.1)=ns.map (fun n:Int=>(Sum.inl n:Key))∧ns.Nodup∧ns.length<64∧
 ∀ e H' ns',Same H H'→H e=none→ns'.Perm ns→ns'.Pairwise (·≤·)→H' e=some (.dK (cO kvs ns'))→Q (.ref e) H'
abbrev fb:Stmt:=top 39
theorem sc_by_number:am ["told"] ["told"] (ah fb):=⟨rfl,rfl,rfl,by decide +kernel,rfl,by decide +kernel,by decide +kernel⟩
theorem mC {f:Addr}{fd:FuncData} (F:Fun K "by_number" "by_number" fb f fd) (T:TxtB mg):FnOk P w K mg base CX0 1 f fd ["told"] cN:=by
 refine F.ok sc_by_number (fun vs H Q E h=>?_) (fun cdv A outer s H vs Q E hr h=>?_)
 ·obtain⟨d,kvs,ns,rfl,_⟩:=h
  rfl
 ·obtain⟨d,kvs,ns,rfl,hd,hks,nnd,h64,q⟩:=h
  have ND:=sc_by_number.nd
  refine⟨_,(af (ay (br (cH rfl) rfl T.n_dict boot_dict (a8 (aO rfl (ao (nT:=1) (js:=[0]) (N':=["number","told"]) rfl rfl (by kernel_rfl)) (cS K (aB (df rfl) rfl T.n_sorted boot_sorted (a8 (pv 0) ae)))
  (fun _ _ _ _ _=>(ai (i:=0) (show List.Nodup (["number","told"]:List Str) by decide +kernel) rfl (by first|exact Or.inl rfl|exact Or.inr rfl)))
  (fun _ _ _ _ _=>aT)
  (fun _ _ _ _ _=>(c6 (a8 (pv 0) (a8 (bP (b7 hr) (pv 1) (pv 0) (fun _ _=>rfl)) ae))))) ae)))),?_⟩
  have hvl:∀ n∈ns,∃ v,aY kvs (Sum.inl n)=some v:=fun n hn=>qA (by rw[hks];exact List.mem_map_of_mem hn)
  refine⟨_,rfl,d,kvs,ns,rfl,hd,hks,h64,fun ns' pm pw L H1 e1 hL0 hL=>?_⟩
  have nl':ns'.length=ns.length:=pm.length_eq
  refine⟨L,rfl,⟨_,SqL.of hL⟩,oU (ns'.map fun n=>[V.int n,(aY kvs (Sum.inl n)).getD .non]) (by rw[List.length_map,List.length_map]) hL (by rw[List.length_map];omega) (fun i x g H2 hx hg e2=>?_) (fun l H2 h2 e2 tl=>?_)⟩
  ·rw[List.getElem?_map]at hx hg
   obtain⟨n,en,rfl⟩:=Option.map_eq_some_iff.mp hx
   rw[en]at hg
   cases hg
   obtain⟨v,ev⟩:=hvl n (pm.mem_iff.mp (List.mem_of_getElem? en))
   refine⟨_,rfl,_,rfl,_,rfl,d,v,rfl,ev▸DGet.k (k:=Sum.inl n) (e2 _ _ (e1 _ _ hd)),(by show 2≤sizeLine;decide),fun b H3 e3 h3 hb=>⟨⟨b,rfl,?_⟩,e3⟩⟩
   rw[hb]
   show _=some (HO.tup [V.int n,(aY kvs (Sum.inl n)).getD .non])
   rw[ev]
   rfl
  ·obtain⟨xs,hxs,hp⟩:=tl
   refine⟨l,cO kvs ns',rfl,⟨xs,hxs,?_⟩,by unfold cO;rw[List.length_map];omega,fun e H3 e3 h3 he=>?_⟩
   ·unfold cO
    exact jI hp fun v n ⟨b,e,hb⟩=>⟨b,e,hb⟩
   ·rw[eA _ [] (by
     rw[List.nil_append]
     unfold cO
     rw[List.map_map]
     exact (List.nodup_iff_pairwise_ne.mpr (List.pairwise_map.mpr ((List.nodup_iff_pairwise_ne.mp (pm.nodup_iff.mpr nnd)).imp fun h z=>h (Sum.inl.inj z))))),List.nil_append]at he
    exact q e H3 ns' ((e1.trans e2).trans e3) ((e1.trans e2).free h3) pm pw he
end
structure TxtP (K : PySem.W.Frag) (mg : Str → Option Value) (C aN : Addr) : Prop where
  cl : Cls K C
  nP : NoAttr K C "prime"
  g_G : ∃ t, mg "GREATEST_PRIME" = some (.int 1000000 t)
  c_NoPrime : mg "NoPrime" = some (.ref aN)
  x_NoPrime : PySem.W.excIn K aN bC "ValueError.__new__" = true
section
variable {P : Program}{w : World}{K : PySem.W.Frag}{mg : Str → Option Value}{base : Heap}{C aN : Addr}
def FieldAt (C:Addr)(H:Hp)(f:Addr)(p:Int):Prop:=∃ dx,H f=some (.ins C dx [("prime",.int p)])
theorem FieldAt.mono {H H':Hp}{f:Addr}{p:Int} (e:Same H H') (h:FieldAt C H f p):FieldAt C H' f p:=let ⟨dx,q⟩:=h;⟨dx,e _ _ q⟩
abbrev gu:Stmt:=top 30
theorem sc_is_prime:am ["number","divisor"] ["number"] (ah gu):=⟨rfl,rfl,rfl,by decide +kernel,rfl,by decide +kernel,by decide +kernel⟩
def eR:Sp:=fun vs H Q _=>∃ (n:Int),vs=[.int n]∧n≤100000000∧Q (.bl (My.isP n)) H
theorem nL {f:Addr}{fd:FuncData} (F:Fun K "is_prime" "is_prime" gu f fd):FnOk P w K mg base CX0 1 f fd ["number"] eR:=by
 refine F.ok sc_is_prime (fun vs H Q E h=>?_) (fun cdv A outer s H vs Q E hr h=>?_)
 ·obtain⟨n,rfl,_⟩:=h
  rfl
 ·obtain⟨n,rfl,hn,q⟩:=h
  have ND:=sc_is_prime.nd
  refine⟨_,(ad (bB (av jK (pv 0) aj (aE _))
  (af (ay dh))
  aH)
 (ad (au (i:=1) ND rfl (by first|exact Or.inl rfl|exact Or.inr rfl) aj)
 (ad (gU PassesOwn.never (av nH (ax iC (pv 1) (pv 1)) (pv 0) (aE _))
  (ad (bB (av cJ (ax aS (pv 0) (pv 1)) aj (aE _))
  (af (ay dh))
  aH)
 (af (ps_aug (i:=1) ND rfl (by first|exact Or.inl rfl|exact Or.inr rfl) aj ip_add))))
 (af (ay dh))))),?_⟩
  refine⟨_,rfl,_,_,rfl,rfl,_,rfl,?_⟩
  refine bT (fun hc=>?_) (fun hc=>?_)
  ·have hc:=of_decide_eq_true hc
   have:My.isP n=false:=by
    cases e:My.isP n with
    | false=>rfl
    | true=>have:=((My.isP_iff n).mp e).1;omega
   rw[this]at q
   exact q
  ·have hc:=of_decide_eq_false (Bool.not_eq_true _▸hc)
   refine⟨fun m σ H2=>∃ d:Int,σ=[some (.int n),some (.int d)]∧H2=H∧2≤d∧d≤n∧My.NoDiv n d∧m=(n+1 - d).toNat,⟨_,2,rfl,rfl,by omega,by omega,⟨fun e h1 h2=>by omega⟩,rfl⟩,?_⟩
   rintro m σ H2 ⟨d,rfl,rfl,h2,hdn,nd,rfl⟩
   refine⟨_,rfl,_,rfl,d,d,rfl,rfl,.inl ⟨by omega,by omega⟩,_,rfl,_,_,rfl,rfl,_,rfl,?_⟩
   refine bT (fun hd=>?_) (fun hd=>?_)
   ·have hd:=of_decide_eq_true hd
    have a:2 * d≤d * d:=Int.mul_le_mul_of_nonneg_right h2 (by omega)
    refine⟨fun σ' H'=>σ'=[some (.int n),some (.int (d+1))]∧H'=H2∧Int.fmod n d≠0,fun σ' H' ⟨e1,e2,e3⟩=>⟨(n+1 - (d+1)).toNat,by omega,d+1,e1,e2,by omega,by omega,⟨fun e h1 h3=>?_⟩,rfl⟩,?_⟩
    ·by_cases c:e<d
     ·exact nd.is e h1 c
     ·have:e=d:=by omega
      rw[this];exact e3
    ·refine⟨_,rfl,_,rfl,n,d,rfl,rfl,(by show (0:Int)<d;omega),rfl,_,rfl,?_⟩
     have em:Int.fmod n d=n % d:=Int.fmod_eq_emod_of_nonneg _ (by omega)
     refine bT (fun hz=>?_) (fun hz=>?_)
     ·have hz:=of_decide_eq_true hz
      injection hz with hz
      have:My.isP n=false:=by
       cases e:My.isP n with
       | false=>rfl
       | true=>exact absurd (em.trans hz) (((My.isP_iff n).mp e).2 d h2 hd)
      rw[this]at q
      exact q
     ·have hz:=of_decide_eq_false (Bool.not_eq_true _▸hz)
      exact⟨_,rfl,_,_,rfl,rfl,rfl,rfl,fun z=>hz (by show V.int (n % d)=V.int 0;rw[← em,z])⟩
   ·have hd:=of_decide_eq_false (Bool.not_eq_true _▸hd)
    have:My.isP n=true:=by
     rw[My.isP_iff]
     refine⟨by omega,fun e he hee=>nd.is e he ?_⟩
     by_cases c:e<d
     ·exact c
     ·exfalso
      have a1:d * d≤e * d:=Int.mul_le_mul_of_nonneg_right (by omega) (by omega)
      have b1:e * d≤e * e:=Int.mul_le_mul_of_nonneg_left (by omega) (by omega)
      omega
    rw[this]at q
    exact q
abbrev pI:Stmt:=aP (top 31) 0
theorem uR:am ["self","prime"] ["self","prime"] (ah pI):=⟨rfl,rfl,rfl,by decide +kernel,rfl,by decide +kernel,by decide +kernel⟩
def jd (C aN:Addr):Sp:=fun vs H Q E=>∃ (x dx:Addr)(p:Int),vs=[.ref x,.int p]∧H x=some (.ins C dx [])∧(p≤1000000→My.isP p=true→Q .non (upd H x (.ins C dx [("prime",.int p)])))∧(¬ (p≤1000000∧My.isP p=true)→E (.ref aN) none H)
theorem v9 {f:Addr}{fd:FuncData} (F:Fun K "__init__" "Field.__init__" pI f fd) (T:TxtP K mg C aN) (D_is_prime:Df P w K mg base 1 "is_prime" ["number"] eR):FnOk P w K mg base (CXE P w) 2 f fd ["self","prime"] (jd C aN):=by
 obtain⟨tk,hgG⟩:=T.g_G
 have TX:=T
 refine F.okX uR (fun vs H Q E h=>?_) (fun cdv A outer s H vs Q E hr h=>?_)
 ·obtain⟨x,dx,p,rfl,_⟩:=h
  rfl
 ·obtain⟨x,dx,p,rfl,hx,q1,q2⟩:=h
  refine⟨_,(ad (bB (PW.pt (qK (av tM (pv 1) (eh (v:=.int 1000000) rfl hgG ⟨_,rfl⟩) (aE _)) (pO (gD (dv (aA D_is_prime (hr.mono (by decide)) rfl (a8 (pv 1) ae)))))))
  (af (bq rfl bO rfl TX.c_NoPrime TX.x_NoPrime))
  aH)
 (af (iu (pv 0) (pv 1) rfl))),?_⟩
  refine⟨_,rfl,_,_,rfl,rfl,_,rfl,?_⟩
  refine bT (fun hc=>ci (q2 fun z=>by have:=of_decide_eq_true hc;omega)) (fun hc=>?_)
  have hc:=of_decide_eq_false (Bool.not_eq_true _▸hc)
  refine⟨_,rfl,p,rfl,by omega,_,rfl,?_⟩
  refine bT (fun hc2=>q2 fun z=>by rw[z.2]at hc2;cases hc2) (fun hc2=>?_)
  have hP:My.isP p=true:=by
   cases e:My.isP p with
   | true=>rfl
   | false=>rw[e]at hc2;exact absurd rfl hc2
  exact⟨_,rfl,_,rfl,x,C,dx,[],rfl,hx,T.cl,T.nP,(by show 0<1000;decide),q1 (by omega) hP⟩
end
structure Txt (K : PySem.W.Frag) (mg : Str → Option Value) (C : Addr) : Prop where
  cl : Cls K C
  nP : NoAttr K C "prime"
  n_range : mg "range" = none
  n_zip : mg "zip" = none
  n_sum : mg "sum" = none
def pA (C:Addr):Sp:=fun vs H Q _=>∃ (f:Addr)(n p:Int),vs=[.ref f,.int n]∧FieldAt C H f p∧0<p∧Q (.int (n % p)) H
section
variable {P : Program}{w : World}{K : PySem.W.Frag}{mg : Str → Option Value}{base : Heap}
abbrev t5:Stmt:=aP (top 31) 1
theorem sc_fit:am ["self","number"] ["self","number"] (ah t5):=⟨rfl,rfl,rfl,by decide +kernel,rfl,by decide +kernel,by decide +kernel⟩
theorem ok_fit {f C:Addr}{fd:FuncData} (F:Fun K "fit" "Field.fit" t5 f fd) (T:Txt K mg C):FnOk P w K mg base CX0 1 f fd ["self","number"] (pA C):=by
 refine F.ok sc_fit (fun vs H Q E h=>?_) (fun cdv A outer s H vs Q E hr h=>?_)
 ·obtain⟨f,n,p,rfl,_⟩:=h
  rfl
 ·obtain⟨f,n,p,rfl,⟨dx,hf⟩,hp,q⟩:=h
  refine⟨_,(af (ay (ax aS (pv 1) (fW K (pv 0) rfl)))),?_⟩
  refine⟨_,rfl,_,rfl,f,C,dx,_,_,rfl,hf,T.cl,T.nP,rfl,_,_,rfl,rfl,hp,q⟩
def InF (p:Int)(r:List Int):Prop:=∀ a∈r,0≤a∧a<p
theorem b8 {α:Type}{l:List α}{i:Nat}{x d:α} (h:l[i]?=some x):l.getD i d=x:=by
 rw[List.getD_eq_getElem?_getD,h];rfl
theorem lT:∀ (xs ys:List Int),((List.range (min xs.length ys.length)).map fun i=>xs.getD i 0 * ys.getD i 0).sum=Mx.dot xs ys
 | [],_=>by simp[Mx.dot]
 | _::_,[]=>by simp[Mx.dot]
 | a::x,b::y=>by
  rw[show min (a::x).length (b::y).length=min x.length y.length+1 by simp only[List.length_cons];omega,List.range_succ_eq_map,List.map_cons,List.map_map,List.sum_cons]
  show a * b+((List.range (min x.length y.length)).map ((fun i=>(a::x).getD i 0 * (b::y).getD i 0) ∘ Nat.succ)).sum=a * b+Mx.dot x y
  rw[← lT x y]
  rfl
def dX (C:Addr):Sp:=fun vs H Q _=>∃ (f:Addr)(x y:V)(p:Int)(xs ys:List Int),vs=[.ref f,x,y]∧FieldAt C H f p∧0<p∧p≤1000000∧Rw H x xs∧Rw H y ys∧InF p xs∧xs.length≤1000∧
 ∀ H',Same H H'→Q (.int (Mx.rowSum p xs ys)) H'
abbrev ik:Stmt:=top 33
theorem pE:am ["field","one","other"] ["field","one","other"] (ah ik):=⟨rfl,rfl,rfl,by decide +kernel,rfl,by decide +kernel,by decide +kernel⟩
theorem pR {f C:Addr}{fd:FuncData} (F:Fun K "row_sum" "row_sum" ik f fd) (T:Txt K mg C) (D_Field_fit:Dm P w K mg base 1 C "fit" ["self","number"] (pA C)):
  FnOk P w K mg base CX0 3 f fd ["field","one","other"] (dX C):=by
 refine F.ok pE (fun vs H Q E h=>?_) (fun cdv A outer s H vs Q E hr h=>?_)
 ·obtain⟨f,x,y,p,xs,ys,rfl,_⟩:=h
  rfl
 ·obtain⟨f,x,y,p,xs,ys,rfl,hf,hp,hp2,⟨a,rfl,ha⟩,⟨b,rfl,hb⟩,hx,hz,q⟩:=h
  obtain⟨dx,hfd⟩:=id hf
  refine⟨_,(af (ay (cB (pv 0) D_Field_fit (hr.mono (by decide)) (a8 (aB (sumK K rfl) rfl T.n_sum oZ (a8 (aO rfl (ao (nT:=2) (js:=[]) (N':=["mine","theirs"]) rfl rfl (by kernel_rfl)) (pizK K rfl T.n_zip (a8 (pv 1) (a8 (pv 2) ae)))
  (fun _ _ _ _ _=>(gE K (n:=2) rfl (ak (ai (i:=0) (show List.Nodup (["mine","theirs"]:List Str) by decide +kernel) rfl (by first|exact Or.inl rfl|exact Or.inr rfl)) (ak (ai (i:=1) (show List.Nodup (["mine","theirs"]:List Str) by decide +kernel) rfl (by first|exact Or.inl rfl|exact Or.inr rfl)) bh))))
  (fun _ _ _ _ _=>aT)
  (fun _ _ _ _ _=>(ax iC (pv 0) (pv 1)))) ae)) ae)))),?_⟩
  refine⟨_,rfl,f,dx,_,rfl,hfd,rfl,_,rfl,_,rfl,a,b,rfl,⟨_,SqL.of ha⟩,⟨_,SqL.of hb⟩,sH (fun i=>xs.getD i 0 * ys.getD i 0) ha hb (by rw[List.length_map];omega) (fun i x y T' H2 ex ey e hT=>?_) (fun l H' h0 e hl=>?_)⟩
  ·obtain⟨u,eu,rfl⟩:=gH ex
   obtain⟨v,ev,rfl⟩:=gH ey
   have hu:=hx u (List.mem_of_getElem? eu)
   exact⟨_,rfl,_,rfl,_,_,rfl,rfl,.inl ⟨by omega,by omega⟩,by rw[b8 eu,b8 ev],az (Same.refl _) hT⟩
  ·refine⟨l,_,rfl,SqL.of hl,f,_,p,rfl,hf.mono e,hp,?_⟩
   rw[List.length_map,List.length_map,lT,← Mx.rowSum_eq]
   exact q H' e
def HasAt (H:Hp)(k:Int)(v:V)(n:Int):Prop:=∃ d kvs,v=.ref d∧H d=some (.dK kvs)∧aY kvs (Sum.inl k)=some (.int n)
def ie:Sp:=fun vs H Q _=>∃ (a:Addr)(xs:List V)(k:Int)(ns:List Int),vs=[.ref a,.int k]∧H a=some (.lst xs)∧xs.length≤1000∧Paired (HasAt H k) xs ns∧
 ∀ l H',Same H H'→H l=none→H' l=some (.lst (ns.map V.int))→Q (.ref l) H'
abbrev jC:Stmt:=top 34
theorem rO:am ["table","place"] ["table","place"] (ah jC):=⟨rfl,rfl,rfl,by decide +kernel,rfl,by decide +kernel,by decide +kernel⟩
theorem rZ {f:Addr}{fd:FuncData} (F:Fun K "column" "column" jC f fd):FnOk P w K mg base CX0 1 f fd ["table","place"] ie:=by
 refine F.ok rO (fun vs H Q E h=>?_) (fun cdv A outer s H vs Q E hr h=>?_)
 ·obtain⟨a,xs,k,ns,rfl,_⟩:=h
  rfl
 ·obtain⟨a,xs,k,ns,rfl,ha,hz,hp,q⟩:=h
  have hl:=Paired.length hp
  refine⟨_,(af (ay (aO rfl (ao (nT:=1) (js:=[1]) (N':=["row","place"]) rfl rfl (by kernel_rfl)) (cS K (pv 0))
  (fun _ _ _ _ _=>(ai (i:=0) (show List.Nodup (["row","place"]:List Str) by decide +kernel) rfl (by first|exact Or.inl rfl|exact Or.inr rfl)))
  (fun _ _ _ _ _=>aT)
  (fun _ _ _ _ _=>(bP (b7 hr) (pv 0) (pv 1) (fun _ _=>rfl)))))),?_⟩
  refine⟨_,rfl,a,rfl,⟨_,SqL.of ha⟩,gN (fun i=>ns.getD i 0) ha hz (fun i x H2 ex e=>?_) (fun l H' h0 e hl'=>q l H' e h0 ?_)⟩
  ·obtain⟨n,en,d,kvs,rfl,hd,hv⟩:=Paired.at hp ex
   refine⟨_,rfl,_,rfl,d,.int n,rfl,hv▸DGet.k (k:=Sum.inl k) (e _ _ hd),?_,Same.refl _⟩
   rw[b8 en]
  ·rw[hl',hl]
   congr 3
   apply List.ext_getElem?
   intro i
   rw[List.getElem?_map]
   by_cases h:i<ns.length
   ·rw[List.getElem?_range h,List.getElem?_eq_getElem h]
    show some (ns.getD i 0)=some ns[i]
    rw[b8 (List.getElem?_eq_getElem h)]
   ·rw[List.getElem?_eq_none (by simpa using h),List.getElem?_eq_none (by omega)]
    rfl
abbrev gq:Stmt:=top 35
theorem n8:am ["many","own"] ["many","own"] (ah gq):=⟨rfl,rfl,rfl,by decide +kernel,rfl,by decide +kernel,by decide +kernel⟩
def eP:Sp:=fun vs H Q _=>∃ (n i:Nat),vs=[.int (n:Int),.int (i:Int)]∧n≤1000∧∀ l H',Same H H'→H l=none→H' l=some (.lst ((Mx.onesRow n i).map V.int))→Q (.ref l) H'
theorem nJ {f C:Addr}{fd:FuncData} (F:Fun K "ones_row" "ones_row" gq f fd) (T:Txt K mg C):FnOk P w K mg base CX0 1 f fd ["many","own"] eP:=by
 refine F.ok n8 (fun vs H Q E h=>?_) (fun cdv A outer s H vs Q E hr h=>?_)
 ·obtain⟨n,i,rfl,_⟩:=h
  rfl
 ·obtain⟨n,i,rfl,hn,q⟩:=h
  refine⟨_,(af (ay (aO rfl (ao (nT:=1) (js:=[1]) (N':=["place","own"]) rfl rfl (by kernel_rfl)) (bJ rfl T.n_range (a8 (pv 0) ae))
  (fun _ _ _ _ _=>(ai (i:=0) (show List.Nodup (["place","own"]:List Str) by decide +kernel) rfl (by first|exact Or.inl rfl|exact Or.inr rfl)))
  (fun _ _ _ _ _=>aT)
  (fun _ _ _ _ _=>(nE (av cJ (pv 0) (pv 1) (aE _)) aj aj))))),?_⟩
  refine⟨_,rfl,_,rfl,by omega,by omega,?_⟩
  rw[Int.toNat_natCast]
  refine dk (n:=n) (fun j=>if j=i then 1 else 0) hn (fun j H2 hj e=>?_) (fun l H' h0 e hl=>q l H' e h0 hl)
  refine⟨_,rfl,_,rfl,rfl,_,rfl,?_⟩
  refine bT (fun hc=>?_) (fun hc=>?_)
  ·have hc:=of_decide_eq_true hc
   injection hc with hc
   have c:j=i:=by omega
   exact⟨by rw[if_pos c],Same.refl _⟩
  ·have hc:=of_decide_eq_false (Bool.not_eq_true _▸hc)
   have c:¬ j=i:=fun z=>hc (by rw[z,Int.zero_add])
   exact⟨by rw[if_neg c],Same.refl _⟩
abbrev pH:Stmt:=top 36
theorem uQ:am ["many"] ["many"] (ah pH):=⟨rfl,rfl,rfl,by decide +kernel,rfl,by decide +kernel,by decide +kernel⟩
def lU:Sp:=fun vs H Q _=>∃ (n:Nat),vs=[.int (n:Int)]∧n≤1000∧∀ l H',Same H H'→TbN H H' l (Mx.ones n)→Q (.ref l) H'
theorem v8 {f C:Addr}{fd:FuncData} (F:Fun K "ones" "ones" pH f fd) (T:Txt K mg C) (D_ones_row:Df P w K mg base 1 "ones_row" ["many","own"] eP):FnOk P w K mg base CX0 2 f fd ["many"] lU:=by
 refine F.ok uQ (fun vs H Q E h=>?_) (fun cdv A outer s H vs Q E hr h=>?_)
 ·obtain⟨n,rfl,_⟩:=h
  rfl
 ·obtain⟨n,rfl,hn,q⟩:=h
  refine⟨_,(af (ay (aO rfl (ao (nT:=1) (js:=[0]) (N':=["own","many"]) rfl rfl (by kernel_rfl)) (bJ rfl T.n_range (a8 (pv 0) ae))
  (fun _ _ _ _ _=>(ai (i:=0) (show List.Nodup (["own","many"]:List Str) by decide +kernel) rfl (by first|exact Or.inl rfl|exact Or.inr rfl)))
  (fun _ _ _ _ _=>aT)
  (fun _ _ _ _ _=>(aA D_ones_row (hr.mono (by decide)) rfl (a8 (pv 1) (a8 (pv 0) ae))))))),?_⟩
  refine⟨_,rfl,_,rfl,by omega,by omega,?_⟩
  rw[Int.toNat_natCast]
  refine oV (n:=n) (fun j=>Mx.onesRow n j) hn (fun j H2 hj e=>?_) (fun l H' hN e=>q l H' e hN)
  refine⟨_,rfl,_,rfl,n,j,?_,hn,fun l H5 e5 h0 hl=>⟨⟨l,rfl,h0,hl⟩,e5⟩⟩
  rw[Int.zero_add]
  rfl
end
end K42
namespace L2
open PySem PySem.Spec PyProof.Rows
section
variable {K : PySem.W.Frag}{js : List Nat}{te : TE}{σ : St}{F : Addr → Hp → Prop}{H : Hp}
end
end L2
namespace K42
open PySem L2
open PyProof.Rows (boot_list boot_int boot_bool boot_tuple boot_str boot_dict boot_all boot_sorted)
section
variable {P : Program}{w : World}{K : PySem.W.Frag}{mg : Str → Option Value}{base : Heap}
theorem eE:∀ {ws:List (Int×Int)},(ws.map (·.1)).Nodup→∀ r∈ws,ws.find? (fun x=>decide (x.1=r.1))=some r
 | [],_,_,h=>(List.not_mem_nil h).elim
 | x::ws,nd,r,h=>by
  rw[List.map_cons,List.nodup_cons]at nd
  rcases List.mem_cons.mp h with rfl|h
  ·rw[List.find?_cons,decide_eq_true rfl]
  ·have ne:¬ x.1=r.1:=fun z=>nd.1 (z▸List.mem_map_of_mem h)
   rw[List.find?_cons,decide_eq_false ne]
   exact eE nd.2 r h
theorem mV (ws:List (Int×Int))(n:Int):aY (ws.map fun r=>((Sum.inl r.1:Key),V.int r.2)) (Sum.inl n)=(ws.find? fun x=>decide (x.1=n)).map fun r=>V.int r.2:=by
 unfold aY
 induction ws with
 | nil=>rfl
 | cons x ws ih=>
  rw[List.map_cons,List.find?_cons,List.find?_cons]
  by_cases h:x.1=n
  ·rw[decide_eq_true h,decide_eq_true (show (Sum.inl x.1:Key)=Sum.inl n by rw[h])]
   rfl
  ·rw[decide_eq_false h,decide_eq_false (show ¬ (Sum.inl x.1:Key)=Sum.inl n from fun z=>h (Sum.inl.inj z))]
   exact ih
theorem u5 {ws:List (Int×Int)}(nd:(ws.map (·.1)).Nodup){ns:List Int}(pm:ns.Perm (ws.map (·.1))):
  ∃ ms:List (Int×Int),ms.Perm ws∧ms.map (·.1)=ns∧cO (ws.map fun r=>((Sum.inl r.1:Key),V.int r.2)) ns=ms.map fun m=>((Sum.inl m.1:Key),V.int m.2):=by
 let f:Int→Int:=fun n=>((ws.find? fun x=>decide (x.1=n)).map (·.2)).getD 0
 have hf:∀ r∈ws,f r.1=r.2:=fun r hr=>by
  show ((ws.find? fun x=>decide (x.1=r.1)).map (·.2)).getD 0=r.2
  rw[eE nd r hr]
  rfl
 refine⟨ns.map fun n=>(n,f n),?_,?_,?_⟩
 ·have h1:=pm.map fun n=>(n,f n)
  rw[List.map_map]at h1
  have h2:ws.map ((fun n=>(n,f n)) ∘ (·.1))=ws:=by
   refine (List.map_congr_left (g:=id) fun r hr=>?_).trans (List.map_id _)
   show (r.1,f r.1)=r
   rw[hf r hr]
  rw[h2]at h1
  exact h1
 ·rw[List.map_map]
  exact List.map_id _
 ·unfold cO
  rw[List.map_map]
  refine List.map_congr_left fun n hn=>?_
  obtain⟨r,hr,rfl⟩:=List.mem_map.mp (pm.mem_iff.mp hn)
  show ((Sum.inl r.1:Key),_)=((Sum.inl r.1:Key),V.int (f r.1))
  rw[mV,eE nd r hr,hf r hr]
  rfl
abbrev aK:=Int×Addr×List Int
def aU (rows:List aK):List (Key×V):=rows.map fun r=>((Sum.inl r.1:Key),V.ref r.2.1)
structure PlanAt (H : Hp) (d : Addr) (rows : List aK) : Prop where
  dict : H d = some (.dK (aU rows))
  row : ∀ r ∈ rows, H r.2.1 = some (.lst (r.2.2.map V.int))
theorem PlanAt.mono {H H':Hp}{d:Addr}{rows:List aK} (e:Same H H') (h:PlanAt H d rows):PlanAt H' d rows:=⟨e _ _ h.dict,fun r hr=>e _ _ (h.row r hr)⟩
def bA (rows:List aK)(n:Int):Option aK:=rows.find? fun r=>decide (r.1=n)
theorem pL {rows:List aK}{n:Int}{r:aK} (h:bA rows n=some r):r∈rows∧r.1=n:=⟨List.mem_of_find?_eq_some h,of_decide_eq_true (by have:=List.find?_some h;exact this)⟩
theorem cU (rows:List aK)(n:Int):aY (aU rows) (Sum.inl n)=(bA rows n).map fun r=>V.ref r.2.1:=by
 unfold aY aU bA
 induction rows with
 | nil=>rfl
 | cons x ws ih=>
  rw[List.map_cons,List.find?_cons,List.find?_cons]
  by_cases h:x.1=n
  ·rw[decide_eq_true h,decide_eq_true (show (Sum.inl x.1:Key)=Sum.inl n by rw[h])]
   rfl
  ·rw[decide_eq_false h,decide_eq_false (show ¬ (Sum.inl x.1:Key)=Sum.inl n from fun z=>h (Sum.inl.inj z))]
   exact ih
end
section
variable {P : Program}{w : World}{K : PySem.W.Frag}{mg : Str → Option Value}{base : Heap}{C : Addr}
abbrev Cs:=List (Int×Int)
def csD (cs:Cs):List (Key×V):=cs.map fun r=>((Sum.inl r.1:Key),V.int r.2)
def aW (cs:Cs)(k:Int):Option Int:=(cs.find? fun x=>decide (x.1=k)).map (·.2)
theorem lS (cs:Cs)(k:Int):aY (csD cs) (Sum.inl k)=(aW cs k).map V.int:=by
 unfold csD aW
 rw[mV,Option.map_map]
 rfl
def inc (msg:List Int)(cs:Cs):Option (List Int)→List Int
 | none=>msg
 | some ks=>ks.map fun k=>(aW cs k).getD 0
def MixW (H:Hp)(m:V):Option (List Int)→Prop
 | none=>m=.non
 | some ks=>Rw H m ks
theorem MixW.mono {H H':Hp}(e:Same H H'){m:V}:∀ {r:Option (List Int)},MixW H m r→MixW H' m r
 | none,h=>h
 | some _,h=>Rw.mono e h
def fF:Sp:=fun vs H Q _=>∃ (m x:V)(d:Addr)(cs:Cs)(msg:List Int)(mo:Option (List Int)),vs=[m,x,.ref d]∧Rw H m msg∧MixW H x mo∧H d=some (.dK (csD cs))∧(∀ ks,mo=some ks→ks.length≤1000∧∀ k∈ks,∃ n,aW cs k=some n)∧
 ∀ v H',Same H H'→Rw H' v (inc msg cs mo)→Q v H'
abbrev eZ:Stmt:=top 40
theorem lZ:am ["message","mixed","carries"] ["message","mixed","carries"] (ah eZ):=⟨rfl,rfl,rfl,by decide +kernel,rfl,by decide +kernel,by decide +kernel⟩
theorem mB {f:Addr}{fd:FuncData} (F:Fun K "coming_in" "coming_in" eZ f fd):FnOk P w K mg base CX0 1 f fd ["message","mixed","carries"] fF:=by
 refine F.ok lZ (fun vs H Q E h=>?_) (fun cdv A outer s H vs Q E hr h=>?_)
 ·obtain⟨m,x,d,cs,msg,mo,rfl,_⟩:=h
  rfl
 ·obtain⟨m,x,d,cs,msg,mo,rfl,hm,hx,hd,hk,q⟩:=h
  refine⟨_,(ad (bB (av op_isN (pv 1) iy (aE _))
  (af (ay (pv 0)))
  aH)
 (af (ay (aO rfl (ao (nT:=1) (js:=[2]) (N':=["number","carries"]) rfl rfl (by kernel_rfl)) (cS K (pv 1))
  (fun _ _ _ _ _=>(ai (i:=0) (show List.Nodup (["number","carries"]:List Str) by decide +kernel) rfl (by first|exact Or.inl rfl|exact Or.inr rfl)))
  (fun _ _ _ _ _=>aT)
  (fun _ _ _ _ _=>(bP (b7 hr) (pv 1) (pv 0) (fun _ _=>rfl))))))),?_⟩
  cases mo with
  | none=>
   have hx:x=.non:=hx
   subst hx
   exact⟨_,rfl,rfl,_,rfl,ci ⟨_,rfl,q m H (Same.refl _) hm⟩⟩
  | some ks=>
   obtain⟨a,rfl,ha⟩:=hx
   obtain⟨hz,hk⟩:=hk ks rfl
   refine⟨_,rfl,rfl,_,rfl,bv ⟨_,rfl,a,rfl,⟨_,SqL.of ha⟩,gN (fun i=>(aW cs (ks.getD i 0)).getD 0) ha (by rw[List.length_map];exact hz) (fun i x H2 ex e=>?_) (fun l H' h0 e hl'=>q _ H' e ⟨l,rfl,?_⟩)⟩⟩
   ·obtain⟨k,ek,rfl⟩:=gH ex
    obtain⟨n,hn⟩:=hk k (List.mem_of_getElem? ek)
    have hv:=lS cs k
    rw[hn,Option.map_some]at hv
    refine⟨_,rfl,_,rfl,d,.int n,rfl,hv▸DGet.k (k:=Sum.inl k) (e _ _ hd),?_,Same.refl _⟩
    rw[b8 ek,hn]
    rfl
   ·rw[hl',List.length_map]
    congr 3
    unfold inc
    apply List.ext_getElem?
    intro i
    rw[List.getElem?_map,List.getElem?_map]
    by_cases h:i<ks.length
    ·rw[List.getElem?_range h,List.getElem?_eq_getElem h]
     show some ((aW cs (ks.getD i 0)).getD 0)=some ((aW cs ks[i]).getD 0)
     rw[b8 (List.getElem?_eq_getElem h)]
    ·rw[List.getElem?_eq_none (by simpa using h),List.getElem?_eq_none (by omega)]
     rfl
theorem k8 (x:Int):∀ zs:List Int,inV (.int x) (zs.map V.int)=decide (x∈zs)
 | []=>by simp[inV]
 | z::zs=>by
  have ih:=k8 x zs
  unfold inV at ih ⊢
  rw[List.map_cons,List.any_cons,ih]
  by_cases h:x=z
  ·subst h
   have:eqV (V.int x) (V.int x)=true:=by show decide _=true;simp
   rw[this]
   simp
  ·have:eqV (V.int z) (V.int x)=false:=by show decide _=false;simp[Ne.symm h]
   rw[this]
   simp[h]
theorem lF (zs:List Int):(zs.map V.int).all gb=true:=by
 rw[List.all_map,List.all_eq_true]
 intro z _
 rfl
def kf (fo:Option (List Int))(k:Int):Bool:=match fo with
 | none=>false
 | some ks=>decide (k∈ks)
def bp (rows:List aK)(k:Int):List Int:=((bA rows k).map (·.2.2)).getD []
def gc (p:Int)(rows:List aK)(msg:List Int)(fo:Option (List Int))(cs:Cs)(m:Mix):Int:=if kf fo m.1 then 0 else Mx.rowSum p (bp rows m.1) (inc msg cs m.2)
def aR (p:Int)(rows:List aK)(msg:List Int)(fo:Option (List Int)):List Mix→Cs→Cs
 | [],cs=>cs
 | m::ms,cs=>aR p rows msg fo ms (cs++[(m.1,gc p rows msg fo cs m)])
theorem gJ (p:Int)(rows:List aK)(msg:List Int)(fo:Option (List Int))(m:Mix):∀ (ms:List Mix)(cs:Cs),aR p rows msg fo (ms++[m]) cs=aR p rows msg fo ms cs++[(m.1,gc p rows msg fo (aR p rows msg fo ms cs) m)]
 | [],_=>rfl
 | _::ms,_=>gJ p rows msg fo m ms _
theorem cj (p:Int)(rows:List aK)(msg:List Int)(fo:Option (List Int)):∀ (ms:List Mix)(cs:Cs),(aR p rows msg fo ms cs).map (·.1)=cs.map (·.1)++ms.map (·.1)
 | [],cs=>(List.append_nil _).symm
 | m::ms,cs=>by
  unfold aR
  rw[cj p rows msg fo ms,List.map_append,List.append_assoc]
  rfl
theorem gI {cs:Cs}{k:Int} (h:k∈cs.map (·.1)):∃ n,aW cs k=some n:=by
 obtain⟨r,hr,e⟩:=List.mem_map.mp h
 unfold aW
 cases hf:cs.find? fun x=>decide (x.1=k) with
 | none=>exact absurd (decide_eq_true e) (List.find?_eq_none.mp hf r hr)
 | some x=>exact⟨x.2,rfl⟩
theorem d7 {cs:Cs}{k:Int} (h:¬ k∈cs.map (·.1)):aW cs k=none:=by
 unfold aW
 have:(cs.find? fun x=>decide (x.1=k))=none:=List.find?_eq_none.mpr fun x hx z=>h (of_decide_eq_true z▸List.mem_map_of_mem hx)
 rw[this]
 rfl
structure ux (ms : List Mix) : Prop where
  nd : (ms.map (·.1)).Nodup
  ahead : ∀ (i : Nat) m ks, ms[i]? = some m → m.2 = some ks → ks.length ≤ 1000 ∧ ∀ k ∈ ks, k ∈ (ms.take i).map (·.1)
def MixT (H:Hp)(v:V)(r:Mix):Prop:=∃ p m,v=.ref p∧H p=some (.tup [.int r.1,m])∧MixW H m r.2
theorem MixT.mono {H H':Hp}(e:Same H H'){v:V}{r:Mix}:MixT H v r→MixT H' v r:=fun⟨p,m,a,b,c⟩=>⟨p,m,a,e _ _ b,c.mono e⟩
structure Flows (C : Addr) (H : Hp) (f a d : Addr) (m x : V) (p : Int) (ms : List Mix) (rows : List aK) (msg : List Int) (fo : Option (List Int)) : Prop where
  field : FieldAt C H f p
  p0 : 0 < p
  p1 : p ≤ 1000000
  mix : ∃ xs, H a = some (.lst xs) ∧ Paired (MixT H) xs ms
  fits : ux ms
  few : ms.length < 64
  plan : PlanAt H d rows
  has : ∀ r ∈ ms, ∃ y, bA rows r.1 = some y ∧ InF p y.2.2 ∧ y.2.2.length ≤ 1000
  msg : Rw H m msg
  fal : MixW H x fo
  falz : ∀ ks, fo = some ks → ks.length ≤ 1000
def jf (C:Addr):Sp:=fun vs H Q _=>∃ (f a d:Addr)(m x:V)(p:Int)(ms:List Mix)(rows:List aK)(msg:List Int)(fo:Option (List Int)),vs=[.ref f,.ref a,.ref d,m,x]∧Flows C H f a d m x p ms rows msg fo∧
 ∀ e H' cs,Same H H'→H e=none→cs.Perm (aR p rows msg fo ms [])→(cs.map (·.1)).Pairwise (·≤·)→H' e=some (.dK (csD cs))→Q (.ref e) H'
abbrev pJ:Stmt:=top 41
theorem sc_flow:am ["field","mixing","plan","message","fallen","carries","number","mixed"] ["field","mixing","plan","message","fallen"] (ah pJ):=⟨rfl,rfl,rfl,by decide +kernel,rfl,by decide +kernel,by decide +kernel⟩
theorem vc {f:Addr}{fd:FuncData} (F:Fun K "flow" "flow" pJ f fd) (D_row_sum:Df P w K mg base 3 "row_sum" ["field","one","other"] (dX C)) (D_coming_in:Df P w K mg base 1 "coming_in" ["message","mixed","carries"] fF) (D_by_number:Df P w K mg base 1 "by_number" ["told"] cN):FnOk P w K mg base CX0 4 f fd ["field","mixing","plan","message","fallen"] (jf C):=by
 refine F.ok sc_flow (fun vs H Q E h=>?_) (fun cdv A outer s H vs Q E hr h=>?_)
 ·obtain⟨f,a,d,m,x,p,ms,rows,msg,fo,rfl,_⟩:=h
  rfl
 ·obtain⟨f,a,d,m,x,p,ms,rows,msg,fo,rfl,h,q⟩:=h
  have ND:=sc_flow.nd
  refine⟨_,(ad (au (i:=5) ND rfl (by first|exact Or.inl rfl|exact Or.inr rfl) dM)
 (ad (bt PassesOwn.never rfl (cS K (pv 1)) (gE K (n:=2) rfl (ak (ai (i:=6) ND rfl (by first|exact Or.inl rfl|exact Or.inr rfl)) (ak (ai (i:=7) ND rfl (by first|exact Or.inl rfl|exact Or.inr rfl)) bh)))
  (af (cf (PW.pt (fh (av qR (pv 4) iy (aE _)) (ef (av (inK K) (pv 6) (pv 4) (by with_unfolding_all rfl)))))
  (af (cw (b7 hr) (pv 5) (pv 6) aj rfl))
  (af (cw (b7 hr) (pv 5) (pv 6) (aA D_row_sum (hr.mono (by decide)) rfl (a8 (pv 0) (a8 (bP (b7 hr) (pv 2) (pv 6) (fun _ _=>rfl)) (a8 (aA D_coming_in (hr.mono (by decide)) rfl (a8 (pv 3) (a8 (pv 7) (a8 (pv 5) ae)))) ae)))) rfl)))))
 (af (ay (aA D_by_number (hr.mono (by decide)) rfl (a8 (pv 5) ae)))))),?_⟩
  obtain⟨xs,ha,hp⟩:=h.mix
  have hxl:=Paired.length hp
  intro e0 he0
  have s0:Same H (upd H e0 (.dK [])):=az (Same.refl _) he0
  refine⟨_,rfl,a,rfl,⟨_,SqL.of (s0 _ _ ha)⟩,bE (K:=K) (xs:=xs) (fun i σ G=>(∃ o6 o7,σ=[some (.ref f),some (.ref a),some (.ref d),some m,some x,some (.ref e0),o6,o7])∧Same H G∧G e0=some (.dK (csD (aR p rows msg fo (ms.take i) [])))) ⟨⟨_,_,rfl⟩,s0,a9⟩ (fun i σ G _ h=>SqL.of (h.2.1 _ _ ha)) ?_ ?_⟩
  ·rintro i v σ G ev ⟨⟨o6,o7,rfl⟩,eG,hG⟩
   obtain⟨r,er,tp,mv,rfl,htp,hmv⟩:=Paired.at hp ev
   refine⟨tp,_,rfl,SqT.of (eG _ _ htp),rfl,_,_,rfl,_,[],rfl,rfl,?_⟩
   have tk:ms.take (i+1)=ms.take i++[r]:=by rw[List.take_add_one,er];rfl
   have hil:i<ms.length:=(List.getElem?_eq_some_iff.mp er).1
   have ck:=cj p rows msg fo (ms.take i) []
   have fr:¬ r.1∈(aR p rows msg fo (ms.take i) []).map (·.1):=fun z=>by
    rw[ck,List.map_nil,List.nil_append]at z
    have nd:=h.fits.nd
    rw[← List.take_append_drop i ms,List.map_append]at nd
    have:r∈ms.drop i:=by
     rw[List.drop_eq_getElem_cons hil]
     have:ms[i]=r:=by rw[List.getElem?_eq_getElem hil]at er;exact Option.some.inj er
     rw[this]
     exact List.mem_cons_self
    exact (List.nodup_append.mp nd).2.2 _ z _ (List.mem_map_of_mem this) rfl
   have step:∀ (n:Int)(G':Hp),Same H G'→G' e0=some (.dK (csD (aR p rows msg fo (ms.take i) [])))→n=gc p rows msg fo (aR p rows msg fo (ms.take i) []) r→∀ o6 o7,
     (∃ o6' o7',([some (.ref f),some (.ref a),some (.ref d),some m,some x,some (.ref e0),o6,o7]:St)=[some (.ref f),some (.ref a),some (.ref d),some m,some x,some (.ref e0),o6',o7'])∧Same H (upd G' e0 (.dK (cz (csD (aR p rows msg fo (ms.take i) [])) (Sum.inl r.1) (.int n))))∧(upd G' e0 (.dK (cz (csD (aR p rows msg fo (ms.take i) [])) (Sum.inl r.1) (.int n)))) e0=some (.dK (csD (aR p rows msg fo (ms.take (i+1)) []))):=fun n G' e' h' en o6 o7=>by
    refine⟨⟨_,_,rfl⟩,aw e' he0,?_⟩
    rw[a9,tk,gJ,d0 _ (by rw[lS,d7 fr];rfl),en]
    unfold csD
    rw[List.map_append]
    rfl
   have small:(csD (aR p rows msg fo (ms.take i) [])).length<2 ^ 24:=by
    have:(csD (aR p rows msg fo (ms.take i) [])).length=(ms.take i).length:=by
     unfold csD
     rw[List.length_map,← List.length_map (f:=(·.1)),ck,List.map_nil,List.nil_append,List.length_map]
    have h1:=h.few
    rw[this,List.length_take]
    omega
   have mixed:kf fo r.1=false→∀ (D:fX),(∀ σ G',((∃ o6 o7,σ=[some (.ref f),some (.ref a),some (.ref d),some m,some x,some (.ref e0),o6,o7])∧Same H G'∧G' e0=some (.dK (csD (aR p rows msg fo (ms.take (i+1)) []))))→D.nx σ G')→
     sDPut (gf 5) (gf 6) (qC (dX C) [] E0 (eN (gf 0) (eN (tDGet (gf 2) (gf 6)) (eN (qC fF [] E0 (eN (gf 3) (eN (gf 7) (eN (gf 5) kx)))) kx)))) D [some (.ref f),some (.ref a),some (.ref d),some m,some x,some (.ref e0),some (.int r.1),some mv] G:=fun hf D hD=>by
    obtain⟨y,hy,yin,yz⟩:=h.has r (List.mem_of_getElem? er)
    have pl:=h.plan.mono eG
    have ym:=(pL hy).1
    have vy:=cU rows r.1
    rw[hy,Option.map_some]at vy
    refine⟨_,rfl,_,rfl,_,rfl,d,_,rfl,vy▸DGet.k (k:=Sum.inl r.1) pl.dict,_,rfl,_,rfl,_,rfl,m,mv,e0,_,msg,r.2,rfl,h.msg.mono eG,hmv.mono eG,hG,fun ks ek=>?_,fun v H3 e3 hv=>?_⟩
    ·obtain⟨kz,kin⟩:=h.fits.ahead i r ks er ek
     exact⟨kz,fun k hk=>gI (by rw[ck,List.map_nil,List.nil_append];exact kin k hk)⟩
    ·refine⟨f,_,v,p,y.2.2,_,rfl,(h.field.mono eG).mono e3,h.p0,h.p1,⟨_,rfl,e3 _ _ (pl.row y ym)⟩,hv,yin,yz,fun H4 e4=>?_⟩
     refine⟨_,rfl,_,rfl,e0,_,rfl,DPut.k (k:=Sum.inl r.1) (e4 _ _ (e3 _ _ hG)) small,?_⟩
     refine hD _ _ (step _ H4 ((eG.trans e3).trans e4) (e4 _ _ (e3 _ _ hG)) ?_ _ _)
     unfold gc bp
     rw[hf,hy]
     rfl
   refine⟨_,fun σ' H' h=>h,?_⟩
   cases fo with
   | none=>
    have hx:x=.non:=h.fal
    subst hx
    exact⟨_,rfl,rfl,_,rfl,bv (mixed rfl _ fun _ _ z=>z)⟩
   | some ks=>
    obtain⟨q0,rfl,hq0⟩:=id h.fal
    refine⟨_,rfl,rfl,_,rfl,ci ⟨_,rfl,_,rfl,q0,_,rfl,.inl (SqL.of (eG _ _ hq0)),rfl,lF ks,_,rfl,?_⟩⟩
    rw[if_neg (by decide),k8]
    cases hd:decide (r.1∈ks) with
    | true=>
     refine ci ⟨_,rfl,_,rfl,e0,_,rfl,DPut.k (k:=Sum.inl r.1) hG small,step _ G eG hG ?_ _ _⟩
     unfold gc
     rw[show kf (some ks) r.1=true from hd,if_pos rfl]
    | false=>exact bv (mixed hd _ fun _ _ z=>z)
  ·rintro σ G ⟨⟨o6,o7,rfl⟩,eG,hG⟩
   rw[hxl,List.take_length]at hG
   have ck:=cj p rows msg fo ms []
   rw[List.map_nil,List.nil_append]at ck
   have nd:((aR p rows msg fo ms []).map (·.1)).Nodup:=ck▸h.fits.nd
   refine⟨_,rfl,e0,_,(aR p rows msg fo ms []).map (·.1),rfl,hG,by unfold csD;rw[List.map_map,List.map_map];rfl,nd,by rw[ck,List.length_map];exact h.few,fun e H' ns' e' h' pm pw he=>?_⟩
   obtain⟨cs,c1,c2,c3⟩:=u5 nd pm
   exact q e H' cs (eG.trans e') (eG.free h') c1 (c2▸pw) (by rw[he];unfold csD;rw[c3])
end
end K42
namespace L2
open PySem PySem.Spec PyProof.Rows
section
variable {K : PySem.W.Frag}{js : List Nat}{te : TE}{σ : St}{F : Addr → Hp → Prop}{H : Hp}
theorem oW {a:Addr}{xs:List V}{ps:List (V×V)} (R:Nat→Hp→V→Prop) (mono:∀ i H H' v,Same H H'→R i H v→R i H' v) (ha:H a=some (.lst xs)) (hps:Paired (fun x (p:V×V)=>∃ b,x=.ref b∧H b=some (.tup [p.1,p.2])) xs ps) (hz:xs.length≤1000)
  (hs:∀ (i:Nat)(p:V×V) H2,ps[i]?=some p→Same H H2→te (some p.1::some p.2::bM σ js) H2 fun v H5=>(∀ l,H l=none→H2 l≠none→R i (hide l H5) v)∧Same H2 H5)
  (hd:∀ l H' vs,H l=none→Same H H'→H' l=some (.lst vs)→vs.length=xs.length→(∀ i v,vs[i]?=some v→R i (hide l H') v)→F l H'):bw 2 js (ql K 2 (dR (bg 0) (dR (bg 1) sB))) i8 te σ F (Itl K a) H:=by
 intro l hl0
 refine⟨fun i m σ' H2=>m=xs.length - i∧i≤xs.length∧(∃ o o2,σ'=o::o2::bM σ js)∧Same H H2∧∃ vs:List V,vs.length=i∧H2 l=some (.lst vs)∧∀ i v,vs[i]?=some v→R i (hide l H2) v,⟨xs.length,by simp,Nat.zero_le _,⟨none,none,rfl⟩,az (Same.refl _) hl0,[],rfl,a9,fun i v h=>by simp at h⟩,?_⟩
 rintro i m σ' H2 ⟨rfl,hi,⟨o',o2,rfl⟩,e,vs,hlen,hl,hp⟩
 have q:SqL K H2 a xs:=SqL.of (e _ _ ha)
 by_cases hlt:i<xs.length
 ·refine .inr ⟨⟨xs,xs[i],q,by simp[hlt]⟩,fun x H3 y=>?_⟩
  obtain⟨rfl,y⟩:=y
  obtain⟨p,ep,b0,rfl,hb0⟩:=Paired.at hps (y xs q)
  refine⟨b0,[p.1,p.2],rfl,SqT.of (e _ _ hb0),rfl,_,[p.2],rfl,_,[],rfl,rfl,?_⟩
  refine⟨fun H4=>False,fun v H5=>(∀ l,H l=none→H3 l≠none→R i (hide l H5) v)∧Same H3 H5,fun H4 z=>z.elim,fun v H5 ⟨pv,e5⟩=>?_,hs i p H3 ep e⟩
  refine⟨_,e5 _ _ hl,by rw[hlen];exact Nat.lt_of_le_of_lt hi (Nat.lt_of_le_of_lt hz (by decide)),_,?_,rfl,hlt,⟨_,_,rfl⟩,aw (e.trans e5) hl0,vs++[v],by rw[List.length_append,hlen];rfl,a9,fun j w hj=>?_⟩
  ·omega
  ·rw[oy]
   by_cases c:j<vs.length
   ·rw[List.getElem?_append_left c]at hj
    exact mono _ _ _ _ (lC e5) (hp j w hj)
   ·rw[List.getElem?_append_right (by omega)]at hj
    by_cases c2:j - vs.length=0
    ·rw[c2]at hj
     have:v=w:=by simpa using hj
     have ej:j=i:=by omega
     rw[ej,← this]
     exact pv l hl0 (by rw[hl];exact fun z=>nomatch z)
    ·rw[List.getElem?_eq_none (by simp;omega)]at hj;cases hj
 ·have ei:i=xs.length:=by omega
  subst ei
  exact .inl ⟨⟨xs,q,Nat.le_refl _⟩,hd l H2 vs hl0 e hl hlen hp⟩
end
end L2
namespace K42
open PySem L2
open PyProof.Rows (boot_list boot_int boot_bool boot_tuple boot_str boot_dict boot_all boot_sorted)
section
variable {P : Program}{w : World}{K : PySem.W.Frag}{mg : Str → Option Value}{base : Heap}{C aN : Addr}
theorem hV {cs:Cs}(nd:(cs.map (·.1)).Nodup){r:Int×Int}(h:r∈cs):aW cs r.1=some r.2:=by
 unfold aW
 rw[eE nd r h]
 rfl
theorem qa {cs ds:Cs}(pm:cs.Perm ds)(nd:(ds.map (·.1)).Nodup)(k:Int):aW cs k=aW ds k:=by
 have nc:(cs.map (·.1)).Nodup:=(pm.map _).nodup_iff.mpr nd
 by_cases h:k∈ds.map (·.1)
 ·obtain⟨r,hr,rfl⟩:=List.mem_map.mp h
  rw[hV nd hr,hV nc (pm.mem_iff.mpr hr)]
 ·rw[d7 h,d7 fun z=>h ((pm.map _).mem_iff.mp z)]
theorem bo:∀ {rows:List aK},(rows.map (·.1)).Nodup→∀ r∈rows,bA rows r.1=some r
 | [],_,_,h=>(List.not_mem_nil h).elim
 | x::ws,nd,r,h=>by
  unfold bA
  rw[List.map_cons,List.nodup_cons]at nd
  rcases List.mem_cons.mp h with rfl|h
  ·rw[List.find?_cons,decide_eq_true rfl]
  ·have ne:¬ x.1=r.1:=fun z=>nd.1 (z▸List.mem_map_of_mem h)
   rw[List.find?_cons,decide_eq_false ne]
   exact bo nd.2 r h
theorem kE {ws:List aK}(nd:(ws.map (·.1)).Nodup){ns:List Int}(pm:ns.Perm (ws.map (·.1))):
  ∃ rs:List aK,rs.Perm ws∧rs.map (·.1)=ns∧cO (aU ws) ns=aU rs:=by
 let f:Int→aK:=fun n=>(bA ws n).getD (n,0,[])
 have hf:∀ r∈ws,f r.1=r:=fun r hr=>by
  show (bA ws r.1).getD _=r
  rw[bo nd r hr]
  rfl
 refine⟨ns.map f,?_,?_,?_⟩
 ·have h1:=pm.map f
  rw[List.map_map]at h1
  have h2:ws.map (f ∘ (·.1))=ws:=(List.map_congr_left (g:=id) fun r hr=>hf r hr).trans (List.map_id _)
  rw[h2]at h1
  exact h1
 ·rw[List.map_map]
  refine (List.map_congr_left (g:=id) fun n hn=>?_).trans (List.map_id _)
  obtain⟨r,hr,rfl⟩:=List.mem_map.mp (pm.mem_iff.mp hn)
  show (f r.1).1=r.1
  rw[hf r hr]
 ·unfold cO aU
  rw[List.map_map]
  refine List.map_congr_left fun n hn=>?_
  obtain⟨r,hr,rfl⟩:=List.mem_map.mp (pm.mem_iff.mp hn)
  show ((Sum.inl r.1:Key),_)=((Sum.inl (f r.1).1:Key),V.ref (f r.1).2.1)
  have:=cU ws r.1
  unfold aU at this
  rw[this,bo nd r hr,hf r hr]
  rfl
def aq (S:NS):List Mix:=mixes S (bL (bx S) S.names.length)
structure CarOk (c : Cl) (H : Hp) (n dp dt : Addr) (S : NS) (d : Addr) (x : V) (p : Int) (rows : List aK) (fo : Option (List Int)) : Prop where
  net : NetAt c H n dp dt S
  ac : pj (bx S)
  ends : ∀ t ∈ S.ties, t.2.2.1 ∈ S.names
  tz : S.ties.length ≤ 1000
  pz : S.posts.length ≤ 1000
  fits : ux (aq S)
  few : (aq S).length < 64
  p1 : p ≤ 1000000
  prime : My.isP p = true
  plan : PlanAt H d rows
  has : ∀ r ∈ aq S, ∃ y, bA rows r.1 = some y ∧ InF p y.2.2 ∧ y.2.2.length ≤ 1000
  fal : MixW H x fo
  falz : ∀ ks, fo = some ks → ks.length ≤ 1000
theorem CarOk.mono {c:Cl}{H H':Hp}{n dp dt:Addr}{S:NS}{d:Addr}{x:V}{p:Int}{rows:List aK}{fo:Option (List Int)} (e:Same H H') (h:CarOk c H n dp dt S d x p rows fo):CarOk c H' n dp dt S d x p rows fo:=
 { h with net:=h.net.mono e,plan:=h.plan.mono e,fal:=h.fal.mono e }
theorem CarOk.p0 {c:Cl}{H:Hp}{n dp dt:Addr}{S:NS}{d:Addr}{x:V}{p:Int}{rows:List aK}{fo:Option (List Int)} (h:CarOk c H n dp dt S d x p rows fo):0<p:=by
 have:=((My.isP_iff p).mp h.prime).1
 omega
theorem qT {l:Addr}{H:Hp}{v:V}{r:Mix} (h:MixAt l H v r):MixT H v r:=by
 obtain⟨q,m,_,e,hq,hm⟩:=h
 refine⟨q,m,e,hq,?_⟩
 obtain⟨k,ro⟩:=r
 cases ro with
 | none=>exact hm
 | some ks=>obtain⟨q',_,e',h'⟩:=hm;exact⟨q',e',h'⟩
def jc (c:Cl):Sp:=fun vs H Q _=>∃ (n dp dt:Addr)(S:NS)(d:Addr)(m x:V)(p:Int)(rows:List aK)(msg:List Int)(fo:Option (List Int)),vs=[.ref n,.ref d,m,.int p,x]∧CarOk c H n dp dt S d x p rows fo∧Rw H m msg∧
 ∀ e H' cs,Same H H'→H e=none→cs.Perm (aR p rows msg fo (aq S) [])→(cs.map (·.1)).Pairwise (·≤·)→H' e=some (.dK (csD cs))→Q (.ref e) H'
abbrev pF:Stmt:=top 42
theorem uP:am ["net","plan","message","prime","fallen"] ["net","plan","message","prime","fallen"] (ah pF):=⟨rfl,rfl,rfl,by decide +kernel,rfl,by decide +kernel,by decide +kernel⟩
theorem qS {c:Cl}{f:Addr}{fd:FuncData} (F:FunD K "sent" "sent" pF f fd) (D_Field:DkX P w K mg base 2 "Field" C ["self","prime"] (jd C aN)) (D_mixing_ties:Df P w K mg base 3 "mixing_ties" ["net"] (fE c)) (D_flow:Df P w K mg base 4 "flow" ["field","mixing","plan","message","fallen"] (jf C)):FnOk P w K mg base (CXE P w) 5 f fd ["net","plan","message","prime","fallen"] (jc c):=by
 refine FunD.okX F uP (fun vs H Q E h=>?_) (fun cdv A outer s H vs Q E hr h=>?_)
 ·obtain⟨n,dp,dt,S,d,m,x,p,rows,msg,fo,rfl,_⟩:=h
  rfl
 ·obtain⟨n,dp,dt,S,d,m,x,p,rows,msg,fo,rfl,O,hm,q⟩:=h
  refine⟨_,(af (ay (aA D_flow (hr.mono (by decide)) rfl (a8 (nC cK D_Field (hr.mono (by decide)) rfl (a8 (pv 3) ae)) (a8 (aA D_mixing_ties (hr.mono (by decide)) rfl (a8 (pv 0) ae)) (a8 (pv 1) (a8 (pv 2) (a8 (pv 4) ae)))))))),?_⟩
  refine⟨_,rfl,fun fx dx nx ndx nex=>⟨fx,dx,p,rfl,a9,fun hp hP=>⟨rfl,?_⟩,fun hn=>?_⟩⟩
  case refine_2=>exact absurd ⟨O.p1,O.prime⟩ hn
  have e1:=aw (o:=.ins C dx [("prime",.int p)]) (aw (o:=.ins C dx []) (az (o:=.own fx) (Same.refl H) ndx) nx) nx
  refine⟨_,rfl,n,dp,dt,S,rfl,O.net.mono e1,O.ac,O.ends,O.tz,O.pz,fun l H2 xs e2 h2 hl pm=>?_⟩
  have e02:=e1.trans e2
  refine⟨_,rfl,_,rfl,_,rfl,fx,l,d,m,x,p,aq S,rows,msg,fo,rfl,⟨⟨dx,e2 _ _ a9⟩,O.p0,O.p1,⟨xs,hl,Paired.mapP pm fun _ _ z=>qT z⟩,O.fits,O.few,O.plan.mono e02,O.has,hm.mono e02,O.fal.mono e02,O.falz⟩,fun e H' cs e' h' c1 c2 c3=>q e H' cs (e02.trans e') (e02.free h') c1 c2 c3⟩
end
section
variable {P : Program}{w : World}{K : PySem.W.Frag}{mg : Str → Option Value}{base : Heap}{C aN : Addr}
theorem jT {H:Hp}:∀ {xs:List V}{rs:List Mix},Paired (MixT H) xs rs→∃ ps:List (V×V),Paired (fun x (p:V×V)=>∃ b,x=.ref b∧H b=some (.tup [p.1,p.2])) xs ps∧Paired (fun (p:V×V) (r:Mix)=>p.1=.int r.1) ps rs
 | _,_,.nil=>⟨[],.nil,.nil⟩
 | _,_,.cons ⟨b,m,e,hb,hm⟩ t=>by
  obtain⟨ps,h1,h2⟩:=jT t
  exact⟨(_,m)::ps,.cons ⟨b,e,hb⟩ h1,.cons rfl h2⟩
theorem d6 {α β:Type}{F:α→β→Prop}:∀ {xs:List α}{ys:List β},xs.length=ys.length→(∀ (i:Nat) x y,xs[i]?=some x→ys[i]?=some y→F x y)→Paired F xs ys
 | [],[],_,_=>.nil
 | _::_,_::_,h,k=>.cons (k 0 _ _ rfl rfl) (d6 (by simpa using h) fun i x y hx hy=>k (i+1) x y hx hy)
theorem iR {α β γ:Type}{F:α→β→Prop}{G:α→γ→Prop}{g:β→γ}:∀ {xs:List α}{ys:List β},Paired F xs ys→(∀ a b,F a b→G a (g b))→Paired G xs (ys.map g)
 | _,_,.nil,_=>.nil
 | _,_,.cons h r,k=>.cons (k _ _ h) (iR r k)
def de (p:Int)(rows:List aK)(fo:Option (List Int))(ms:List Mix)(many:Nat)(k:Int):List Int:=(List.range many).map fun j=>(aW (aR p rows (Mx.onesRow many j) fo ms []) k).getD 0
theorem md {H:Hp}(F:Int→List Int):∀ {vs:List V}{ms:List Mix},Paired (fun v (m:Mix)=>∃ b g,v=V.ref b∧H b=some (.tup [.int m.1,.ref g])∧H g=some (.lst ((F m.1).map V.int))) vs ms→
  ∃ ws:List aK,ws.map (fun r=>(r.1,r.2.2))=ms.map (fun m=>(m.1,F m.1))∧Paired (fun v (r:aK)=>∃ b,v=V.ref b∧H b=some (.tup [.int r.1,.ref r.2.1])) vs ws∧∀ r∈ws,H r.2.1=some (.lst (r.2.2.map V.int))
 | _,_,.nil=>⟨[],rfl,.nil,fun _ h=>(List.not_mem_nil h).elim⟩
 | _,m::_,.cons ⟨b,g,e,hb,hg⟩ t=>by
  obtain⟨ws,h1,h2,h3⟩:=md F t
  refine⟨(m.1,g,F m.1)::ws,by rw[List.map_cons,List.map_cons,h1],.cons ⟨b,e,hb⟩ h2,fun r hr=>?_⟩
  rcases List.mem_cons.mp hr with rfl|hr
  ·exact hg
  ·exact h3 r hr
theorem tO {many i:Nat}{r:List Int} (h:(Mx.ones many)[i]?=some r):r=Mx.onesRow many i:=by
 unfold Mx.ones at h
 rw[List.getElem?_map]at h
 by_cases c:i<many
 ·rw[List.getElem?_range c]at h
  exact (Option.some.inj h).symm
 ·rw[List.getElem?_eq_none (by simpa using c)]at h
  cases h
def ca (c:Cl):Sp:=fun vs H Q _=>∃ (n dp dt:Addr)(S:NS)(d:Addr)(x:V)(p:Int)(rows:List aK)(fo:Option (List Int))(many:Nat),vs=[.ref n,.ref d,.int (many:Int),.int p,x]∧CarOk c H n dp dt S d x p rows fo∧many≤1000∧
 ∀ e H' (rs:List aK),Same H H'→H e=none→PlanAt H' e rs→(rs.map (·.1)).Pairwise (·≤·)→(rs.map fun r=>(r.1,r.2.2)).Perm ((aq S).map fun m=>(m.1,de p rows fo (aq S) many m.1))→Q (.ref e) H'
abbrev ip:Stmt:=top 43
theorem sc_carried:am ["net","plan","many","prime","fallen","field","mixing","flows"] ["net","plan","many","prime","fallen"] (ah ip):=⟨rfl,rfl,rfl,by decide +kernel,rfl,by decide +kernel,by decide +kernel⟩
theorem jN {c:Cl}{f:Addr}{fd:FuncData} (F:FunD K "carried" "carried" ip f fd) (T:TxtB mg) (D_Field:DkX P w K mg base 2 "Field" C ["self","prime"] (jd C aN)) (D_mixing_ties:Df P w K mg base 3 "mixing_ties" ["net"] (fE c)) (D_flow:Df P w K mg base 4 "flow" ["field","mixing","plan","message","fallen"] (jf C))
  (D_ones:Df P w K mg base 2 "ones" ["many"] lU) (D_column:Df P w K mg base 1 "column" ["table","place"] ie) (D_by_number:Df P w K mg base 1 "by_number" ["told"] cN):FnOk P w K mg base (CXE P w) 5 f fd ["net","plan","many","prime","fallen"] (ca c):=by
 refine FunD.okX F sc_carried (fun vs H Q E h=>?_) (fun cdv A outer s H vs Q E hr h=>?_)
 ·obtain⟨n,dp,dt,S,d,x,p,rows,fo,many,rfl,_⟩:=h
  rfl
 ·obtain⟨n,dp,dt,S,d,x,p,rows,fo,many,rfl,O,hmany,q⟩:=h
  have ND:=sc_carried.nd
  refine⟨_,(ad (au (i:=5) ND rfl (by first|exact Or.inl rfl|exact Or.inr rfl) (nC cK D_Field (hr.mono (by decide)) rfl (a8 (pv 3) ae)))
 (ad (au (i:=6) ND rfl (by first|exact Or.inl rfl|exact Or.inr rfl) (aA D_mixing_ties (hr.mono (by decide)) rfl (a8 (pv 0) ae)))
 (ad (au (i:=7) ND rfl (by first|exact Or.inl rfl|exact Or.inr rfl) (aO rfl (ao (nT:=1) (js:=[1,4,5,6]) (N':=["message","plan","fallen","field","mixing"]) rfl rfl (by kernel_rfl)) (cS K (aA D_ones (hr.mono (by decide)) rfl (a8 (pv 2) ae)))
  (fun _ _ _ _ _=>(ai (i:=0) (show List.Nodup (["message","plan","fallen","field","mixing"]:List Str) by decide +kernel) rfl (by first|exact Or.inl rfl|exact Or.inr rfl)))
  (fun _ _ _ _ _=>aT)
  (fun _ _ _ _ _=>(aA D_flow (hr.mono (by decide)) rfl (a8 (pv 3) (a8 (pv 4) (a8 (pv 1) (a8 (pv 0) (a8 (pv 2) ae)))))))))
 (af (ay (aA D_by_number (hr.mono (by decide)) rfl (a8 (br (cH rfl) rfl T.n_dict boot_dict (a8 (aO rfl (ao (nT:=2) (js:=[7]) (N':=["number","mixed","flows"]) rfl rfl (by kernel_rfl)) (cS K (pv 6))
  (fun _ _ _ _ _=>(gE K (n:=2) rfl (ak (ai (i:=0) (show List.Nodup (["number","mixed","flows"]:List Str) by decide +kernel) rfl (by first|exact Or.inl rfl|exact Or.inr rfl)) (ak (ai (i:=1) (show List.Nodup (["number","mixed","flows"]:List Str) by decide +kernel) rfl (by first|exact Or.inl rfl|exact Or.inr rfl)) bh))))
  (fun _ _ _ _ _=>aT)
  (fun _ _ _ _ _=>(c6 (a8 (pv 0) (a8 (aA D_column (hr.mono (by decide)) rfl (a8 (pv 2) (a8 (pv 0) ae))) ae))))) ae)) ae))))))),?_⟩
  refine⟨_,rfl,fun fx dx nx ndx nex=>⟨fx,dx,p,rfl,a9,fun hp hP=>⟨rfl,?_⟩,fun hn=>?_⟩⟩
  case refine_2=>exact absurd ⟨O.p1,O.prime⟩ hn
  have e1:=aw (o:=.ins C dx [("prime",.int p)]) (aw (o:=.ins C dx []) (az (o:=.own fx) (Same.refl H) ndx) nx) nx
  refine⟨_,rfl,n,dp,dt,S,rfl,O.net.mono e1,O.ac,O.ends,O.tz,O.pz,fun l H2 xs e2 h2 hl pm=>?_⟩
  have e02:=e1.trans e2
  have hfx:FieldAt C H2 fx p:=⟨dx,e2 _ _ a9⟩
  have hmx:Paired (MixT H2) xs (aq S):=Paired.mapP pm fun _ _ z=>qT z
  have xl:=Paired.length hmx
  have few:=O.few
  refine⟨_,rfl,many,rfl,hmany,fun lo H3 e3 hT=>?_⟩
  obtain⟨hlo0,ys,hlo,hpy⟩:=hT
  have yl:=Paired.length hpy
  have ol:(Mx.ones many).length=many:=by unfold Mx.ones;simp
  refine⟨lo,rfl,⟨_,SqL.of hlo⟩,qo (fun i H v=>∃ g cs,v=.ref g∧H g=some (.dK (csD cs))∧cs.Perm (aR p rows (Mx.onesRow many i) fo (aq S) [])) (fun i H H' v e ⟨g,cs,a,b,c⟩=>⟨g,cs,a,e _ _ b,c⟩) (SqL.of hlo) (by omega) (fun i y H4 ey e4=>?_) (fun lf H4 vs hlf0 e4 hlf vl hv=>?_)⟩
  ·obtain⟨r,er,hr⟩:=Paired.at hpy ey
   have:=tO er
   subst this
   have e24:=e3.trans e4
   have e04:=e02.trans e24
   refine⟨_,rfl,_,rfl,_,rfl,_,rfl,_,rfl,fx,l,d,y,x,p,aq S,rows,Mx.onesRow many i,fo,rfl,⟨hfx.mono e24,O.p0,O.p1,⟨xs,e24 _ _ hl,Paired.mapP hmx fun _ _ z=>z.mono e24⟩,O.fits,O.few,O.plan.mono e04,O.has,hr.rw.mono e4,O.fal.mono e04,O.falz⟩,fun g H5 cs e5 h5 c1 c2 c3=>⟨fun l' hl' hl2=>⟨g,cs,rfl,fv hl2 h5 c3,c1⟩,e5⟩⟩
  have e24:=e3.trans e4
  have e04:=e02.trans e24
  have hm4:Paired (MixT H4) xs (aq S):=Paired.mapP hmx fun _ _ z=>z.mono e24
  obtain⟨ps,p1,p2⟩:=jT hm4
  refine⟨_,rfl,l,rfl,⟨_,SqL.of (e24 _ _ hl)⟩,oW (ps:=ps) (fun i H v=>∀ r,(aq S)[i]?=some r→∃ b g,v=.ref b∧H b=some (.tup [.int r.1,.ref g])∧H g=some (.lst ((de p rows fo (aq S) many r.1).map V.int))) (fun i H H' v e h r hr=>let ⟨b,g,a1,a2,a3⟩:=h r hr;⟨b,g,a1,e _ _ a2,e _ _ a3⟩) (e24 _ _ hl) p1 (by omega) (fun i pp H5 ep e5=>?_) (fun l2 H5 ws hl20 e5 hl2 wl hw=>?_)⟩
  ·obtain⟨r,er,hr1⟩:=Paired.at p2 ep
   obtain⟨pk,pm'⟩:=pp
   have hr1:pk=.int r.1:=hr1
   subst hr1
   refine⟨_,rfl,_,rfl,_,rfl,lf,vs,r.1,de p rows fo (aq S) many r.1,rfl,e5 _ _ hlf,by omega,?_,fun g H6 e6 h6 hg=>?_⟩
   ·refine d6 (by unfold de;rw[List.length_map,List.length_range];omega) fun j v z hj hz=>?_
    obtain⟨g,cs,ev,hg,pc⟩:=hv j v hj
    have jl:j<many:=by have:=(List.getElem?_eq_some_iff.mp hj).1;omega
    unfold de at hz
    rw[List.getElem?_map,List.getElem?_range jl]at hz
    have hz:(aW (aR p rows (Mx.onesRow many j) fo (aq S) []) r.1).getD 0=z:=Option.some.inj hz
    have ck:=cj p rows (Mx.onesRow many j) fo (aq S) []
    rw[List.map_nil,List.nil_append]at ck
    refine⟨g,csD cs,ev,e5 _ _ (fR _ _ hg),?_⟩
    rw[lS,qa pc (ck▸O.fits.nd)]
    obtain⟨nn,hn⟩:=gI (cs:=aR p rows (Mx.onesRow many j) fo (aq S) []) (k:=r.1) (by rw[ck];exact List.mem_map_of_mem (List.mem_of_getElem? er))
    rw[hn]at hz ⊢
    rw[← hz]
    rfl
   ·refine⟨(by show 2≤sizeLine;decide),fun b H7 e7 h7 hb=>⟨fun l' hl' hl2 r' hr'=>?_,e6.trans e7⟩⟩
    rw[er]at hr'
    cases hr'
    exact⟨b,g,rfl,fv hl2 (e6.free h7) hb,fv hl2 h6 (e7 _ _ hg)⟩
  ·have e05:=e04.trans e5
   obtain⟨rws,w1,w2,w3⟩:=md (H:=H5) (fun k=>de p rows fo (aq S) many k) (vs:=ws) (ms:=aq S) (d6 (by omega) fun i v r hv hr=>let ⟨b,g,a1,a2,a3⟩:=hw i v hv r hr;⟨b,g,a1,fR _ _ a2,fR _ _ a3⟩)
   have wk:rws.map (·.1)=(aq S).map (·.1):=by
    have:=congrArg (List.map (·.1)) w1
    rw[List.map_map,List.map_map]at this
    exact this
   have wnd:(rws.map (·.1)).Nodup:=wk▸O.fits.nd
   have wlen:rws.length=(aq S).length:=by rw[← List.length_map (f:=(·.1)),wk,List.length_map]
   refine⟨l2,aU rws,rfl,⟨ws,hl2,iR w2 fun v r ⟨b,e,hb⟩=>⟨b,e,hb⟩⟩,by unfold aU;rw[List.length_map];omega,fun dd H6 e6 h6 hd=>?_⟩
   rw[eA _ [] (by
    rw[List.nil_append]
    unfold aU
    rw[List.map_map]
    have:((fun x:Key×V=>x.1) ∘ fun r:aK=>((Sum.inl r.1:Key),V.ref r.2.1))=(fun x:Int=>(Sum.inl x:Key)) ∘ Prod.fst:=rfl
    rw[this,← List.map_map]
    exact List.nodup_iff_pairwise_ne.mpr (List.pairwise_map.mpr ((List.nodup_iff_pairwise_ne.mp wnd).imp fun h z=>h (Sum.inl.inj z)))),List.nil_append]at hd
   have e06:=e05.trans e6
   refine⟨dd,_,rws.map (·.1),rfl,hd,by unfold aU;rw[List.map_map,List.map_map];rfl,wnd,by rw[List.length_map];omega,fun e H7 ns' e7 h7 pm' pw he=>?_⟩
   obtain⟨rs,r1,r2,r3⟩:=kE wnd pm'
   exact q e H7 rs (e06.trans e7) (e06.free h7) ⟨by rw[he,r3],fun r hr=>e7 _ _ (e6 _ _ (w3 r (r1.mem_iff.mp hr)))⟩ (r2▸pw) (w1▸r1.map _)
end
section
variable {P : Program}{w : World}{K : PySem.W.Frag}{mg : Str → Option Value}{base : Heap}{C aN : Addr}
def eV (c:Cl)(NP:Addr):Sp:=fun vs H Q E=>∃ (n dp dt:Addr)(S:NS)(d:Addr)(x:V)(p:Int)(rows:List aK)(fo:Option (List Int))(many:Nat)(g:Str),vs=[.ref n,.ref d,.int (many:Int),.int p,.str g,x]∧CarOk c H n dp dt S d x p rows fo∧many≤1000∧
 (¬ g∈S.lis→∀ dx H',Same H H'→H' dx=some (.xd [("name",.str g)])→E (.ref NP) (some dx) H')∧
 (g∈S.lis→g∈S.names∧(∀ k∈S.into g,k∈(aq S).map (·.1))∧∀ l H' xs,Same H H'→H' l=some (.lst xs)→Paired (Rw H') xs ((S.into g).map fun k=>de p rows fo (aq S) many k)→Q (.ref l) H')
abbrev m5:Stmt:=top 44
theorem sc_heard:am ["net","plan","many","prime","listener","fallen","rows"] ["net","plan","many","prime","listener","fallen"] (ah m5):=⟨rfl,rfl,rfl,by decide +kernel,rfl,by decide +kernel,by decide +kernel⟩
theorem nN {c:Cl}{NP:Addr}{f:Addr}{fd:FuncData} (F:FunD K "heard" "heard" m5 f fd) (D_NoPost:DiX P w K mg base 1 "NoPost" NP ["self","name"] (ia NP "name")) (D_Net_listeners:Dm P w K mg base 2 c.net "listeners" ["self"] (cM c)) (D_Net_into:Dm P w K mg base 2 c.net "into" ["self","name"] (dg c NS.into))
  (D_carried:DfX P w K mg base 5 "carried" ["net","plan","many","prime","fallen"] (ca c)):FnOk P w K mg base (CXE P w) 6 f fd ["net","plan","many","prime","listener","fallen"] (eV c NP):=by
 refine FunD.okX F sc_heard (fun vs H Q E h=>?_) (fun cdv A outer s H vs Q E hr h=>?_)
 ·obtain⟨n,dp,dt,S,d,x,p,rows,fo,many,g,rfl,_⟩:=h
  rfl
 ·obtain⟨n,dp,dt,S,d,x,p,rows,fo,many,g,rfl,O,hmany,qE,q⟩:=h
  have ND:=sc_heard.nd
  obtain⟨dx,h1⟩:=id O.net.ins
  refine⟨_,(ad (bB (av (tS K) (pv 4) (bK (pv 0) D_Net_listeners (hr.mono (by decide))) (by with_unfolding_all rfl))
  (af (rT jh rfl uk rfl D_NoPost (hr.mono (by decide)) (a8 (pv 4) ae)))
  aH)
 (ad (au (i:=6) ND rfl (by first|exact Or.inl rfl|exact Or.inr rfl) (gY cK D_carried (hr.mono (by decide)) rfl (a8 (pv 0) (a8 (pv 1) (a8 (pv 2) (a8 (pv 3) (a8 (pv 5) ae)))))))
 (af (ay (aO rfl (ao (nT:=1) (js:=[6]) (N':=["number","rows"]) rfl rfl (by kernel_rfl)) (cS K (cB (pv 0) D_Net_into (hr.mono (by decide)) (a8 (pv 4) ae)))
  (fun _ _ _ _ _=>(ai (i:=0) (show List.Nodup (["number","rows"]:List Str) by decide +kernel) rfl (by first|exact Or.inl rfl|exact Or.inr rfl)))
  (fun _ _ _ _ _=>aT)
  (fun _ _ _ _ _=>(bP (b7 hr) (pv 1) (pv 0) (fun _ _=>rfl)))))))),?_⟩
  refine⟨_,rfl,_,rfl,n,dx,_,rfl,h1,rfl,n,dp,dt,S,rfl,O.net,O.pz,fun l1 H1 e1 h01 hl1=>⟨l1,_,rfl,.inl (SqL.of hl1),rfl,fT _,_,rfl,?_⟩⟩
  rw[if_pos rfl,fu]
  by_cases hgl:g∈S.lis
  case neg=>
   rw[decide_eq_false hgl]
   refine ci ⟨_,rfl,(by show 1≤sizeLine;decide),fun ea hea=>⟨ea,_,rfl,a9,fun dy hdy ne=>⟨rfl,dy,a9,?_⟩⟩⟩
   have hdy:H1 dy=none:=by rw[aa ne]at hdy;exact hdy
   refine qE hgl dy _ (fun b o hb=>?_) ?_
   ·have hb:=e1 _ _ hb
    rw[dj (ag hb hea),aa (ag hb hea),aa (ag hb hdy),aa (ag hb hea)]
    exact hb
   ·rw[dj ne,aa ne]
    exact a9
  rw[decide_eq_true hgl]
  obtain⟨hgn,hin,q⟩:=q hgl
  refine bv ?_
  refine⟨_,rfl,_,rfl,_,rfl,_,rfl,_,rfl,n,dp,dt,S,d,x,p,rows,fo,many,rfl,O.mono e1,hmany,fun e H2 rs e2 he pl pw pm=>?_⟩
  have e02:=e1.trans e2
  have rnd:(rs.map (·.1)).Nodup:=by
   have:=(pm.map (·.1)).nodup_iff
   rw[List.map_map,List.map_map]at this
   exact this.mpr O.fits.nd
  refine⟨_,rfl,n,dx,_,rfl,e02 _ _ h1,rfl,_,rfl,n,dp,dt,S,g,rfl,O.net.mono e02,hgn,O.tz,fun li H3 e3 h3 hli=>?_⟩
  have e03:=e02.trans e3
  have pl3:=pl.mono e3
  have row:∀ k∈S.into g,∃ r∈rs,r.1=k∧r.2.2=de p rows fo (aq S) many k:=fun k hk=>by
   obtain⟨m,hm,rfl⟩:=List.mem_map.mp (hin k hk)
   obtain⟨r,hr,er⟩:=List.mem_map.mp (pm.mem_iff.mpr (List.mem_map_of_mem (f:=fun m:Mix=>(m.1,de p rows fo (aq S) many m.1)) hm))
   have e1:r.1=m.1:=congrArg Prod.fst er
   exact⟨r,hr,e1,congrArg Prod.snd er⟩
  refine⟨li,rfl,⟨_,SqL.of hli⟩,gM (fun i=>match bA rs ((S.into g).getD i 0) with|some r=>.ref r.2.1|none=>.non) hli (by rw[List.length_map];unfold NS.into;rw[List.length_map];exact Nat.le_trans (List.length_filter_le _ _) O.tz) (fun i y H4 ey e4=>?_) (fun l H4 hl0 e4 hl=>?_)⟩
  ·obtain⟨k,ek,rfl⟩:=gH ey
   obtain⟨r,hr,rk,_⟩:=row k (List.mem_of_getElem? ek)
   have hv:=cU rs k
   rw[← rk,bo rnd r hr,Option.map_some,rk]at hv
   refine⟨_,rfl,_,rfl,e,_,rfl,hv▸DGet.k (k:=Sum.inl k) (e4 _ _ pl3.dict),?_,Same.refl _⟩
   rw[b8 ek,← rk,bo rnd r hr]
  ·refine q l H4 _ (e03.trans e4) hl (d6 (by simp) fun i v cs hv hc=>?_)
   rw[List.getElem?_map]at hc
   obtain⟨k,ek,rfl⟩:=Option.map_eq_some_iff.mp hc
   have il:i<(S.into g).length:=(List.getElem?_eq_some_iff.mp ek).1
   rw[List.getElem?_map,List.getElem?_range (by rw[List.length_map];exact il)]at hv
   have hv:(match bA rs ((S.into g).getD i 0) with|some r=>V.ref r.2.1|none=>.non)=v:=Option.some.inj hv
   obtain⟨r,hr,rk,rc⟩:=row k (List.mem_of_getElem? ek)
   rw[b8 ek,← rk,bo rnd r hr]at hv
   rw[← rc]
   exact⟨_,hv.symm,e4 _ _ (pl3.row r hr)⟩
end
theorem bc {α:Type}{xs:List α}{j:Nat}{x:α} (h:xs[j]?=some x):atI xs (j:Int)=some x:=by
 have hj:=(List.getElem?_eq_some_iff.mp h).1
 unfold atI ixN
 rw[if_pos (Int.natCast_nonneg j),if_pos (by simpa using hj)]
 simpa using h
theorem uu {α:Type}{xs:List α}{i:Int} (h0:0≤i) (h:i<xs.length):∃ v,xs[i.toNat]?=some v∧atI xs i=some v:=by
 have hj:i.toNat<xs.length:=by omega
 refine⟨xs[i.toNat],List.getElem?_eq_getElem hj,?_⟩
 have:=bc (xs:=xs) (j:=i.toNat) (List.getElem?_eq_getElem hj)
 rwa [Int.toNat_of_nonneg h0]at this
theorem iK {xs:List V}{m:Nat} (h:m≤xs.length):cm xs none (some (m:Int))=xs.take m:=by
 unfold cm
 rw[HT.sIx_none,HT.sIx_nat,List.drop_zero,Nat.sub_zero,Nat.min_eq_left h]
structure sL (mg : Str → Option Value) : Prop where
  n_len : mg "len" = none
  n_range : mg "range" = none
  n_list : mg "list" = none
  n_sorted : mg "sorted" = none
  n_enumerate : mg "enumerate" = none
  n_reversed : mg "reversed" = none
  n_isinstance : mg "isinstance" = none
  n_dict : mg "dict" = none
section
variable {P : Program}{w : World}{K : PySem.W.Frag}{mg : Str → Option Value}{base : Heap}
abbrev gC:Stmt:=top 46
theorem nw:am ["_law_script","_law_k"] ["_law_script","_law_k"] (ah gC):=⟨rfl,rfl,rfl,by decide +kernel,rfl,by decide +kernel,by decide +kernel⟩
def eY (K:PySem.W.Frag):Sp:=fun vs H Q _=>∃ (a:Addr)(k:Int)(ns:List Int),vs=[.ref a,.int k]∧0≤k∧SqL K H a (ns.map V.int)∧∀ c:Int,Q (.int c) H
theorem nW {f:Addr}{fd:FuncData} (F:Fun K "_law_cell_at" "_law_cell_at" gC f fd) (T:sL mg):FnOk P w K mg base CX0 1 f fd ["_law_script","_law_k"] (eY K):=by
 refine F.ok nw (fun vs H Q E h=>?_) (fun cdv A outer s H vs Q E hr h=>?_)
 ·obtain⟨a,k,ns,rfl,_⟩:=h
  rfl
 ·obtain⟨a,k,ns,rfl,hk,hS,q⟩:=h
  refine⟨_,(ad (bB (av jK (pv 1) (aB (j6 K) rfl T.n_len boot_len (a8 (pv 0) ae)) (aE _))
  (af (ay (aV (cg K) (pv 0) (pv 1) (fun _ _=>rfl))))
  aH)
 (af (ay aj))),?_⟩
  refine⟨_,rfl,_,rfl,a,_,rfl,.inl hS,_,_,rfl,rfl,_,rfl,?_⟩
  refine bT (fun hc=>?_) (fun hc=>?_)
  ·have hc:=of_decide_eq_true hc
   obtain⟨v,ev,e⟩:=uu hk hc
   rw[List.getElem?_map]at ev
   cases hn:ns[k.toNat]? with
   | none=>rw[hn]at ev;cases ev
   | some z=>
    rw[hn]at ev
    have:v=.int z:=by simpa using ev.symm
    subst this
    exact⟨_,rfl,_,rfl,a,_,k,_,rfl,rfl,hS,e,q z⟩
  ·exact q 0
abbrev iq:Stmt:=top 47
theorem sc_Lstream:am ["_law_cell","_law_many","_law_found","_law_number","_law_k"] ["_law_cell","_law_many"] (ah iq):=⟨rfl,rfl,rfl,by decide +kernel,rfl,by decide +kernel,by decide +kernel⟩
def cX:Sp:=fun vs H Q _=>∃ (c:Int)(m:Nat),vs=[.int c,.int (m:Int)]∧m≤100∧∀ l H' (xs:List Int),Same H H'→H l=none→xs.length=m→H' l=some (.lst (xs.map V.int))→Q (.ref l) H'
theorem pT {f:Addr}{fd:FuncData} (F:Fun K "_law_stream" "_law_stream" iq f fd) (T:sL mg):FnOk P w K mg base CX0 1 f fd ["_law_cell","_law_many"] cX:=by
 refine F.ok sc_Lstream (fun vs H Q E h=>?_) (fun cdv A outer s H vs Q E hr h=>?_)
 ·obtain⟨c,m,rfl,_⟩:=h
  rfl
 ·obtain⟨c,m,rfl,hm,q⟩:=h
  have ND:=sc_Lstream.nd
  refine⟨_,(ad (au (i:=2) ND rfl (by first|exact Or.inl rfl|exact Or.inr rfl) (bi ae))
 (ad (au (i:=3) ND rfl (by first|exact Or.inl rfl|exact Or.inr rfl) (ax bQ (pv 0) aj))
 (ad (gU PassesOwn.never (PW.pt (fh (av cJ (ax aS (pv 0) aj) aj (aE _)) (fh (av tM (pv 3) aj (aE _)) (ef (av jK (aB (j6 K) rfl T.n_len boot_len (a8 (pv 2) ae)) (pv 1) (aE _))))))
  (ad (aF (bmK K PySem.F.plainAttrs_list PySem.F.slot_list_append PySem.F.type_list_append be (pv 2) (a8 (ax aS (pv 3) (ax tL aj aj)) ae)))
 (af (au (i:=3) ND rfl (by first|exact Or.inl rfl|exact Or.inr rfl) (ax bQ (pv 3) (ax tL aj aj))))))
 (ad (au (i:=3) ND rfl (by first|exact Or.inl rfl|exact Or.inr rfl) (ax aS (ax iC (ax bS (ax bQ (pv 0) aj) aj) aj) aj))
 (ad (bt PassesOwn.never rfl (bJ rfl T.n_range (a8 (pv 1) ae)) (ai (i:=4) ND rfl (by first|exact Or.inl rfl|exact Or.inr rfl))
  (ad (au (i:=3) ND rfl (by first|exact Or.inl rfl|exact Or.inr rfl) (ax aS (ax iC (pv 3) (ax bS (ax bS (ax bQ (pv 3) aj) aj) (pv 4))) aj))
 (ad (aF (bmK K PySem.F.plainAttrs_list PySem.F.slot_list_append PySem.F.type_list_append be (pv 2) (a8 (pv 3) ae)))
 (af (au (i:=3) ND rfl (by first|exact Or.inl rfl|exact Or.inr rfl) (ax bS (pv 3) aj))))))
 (af (ay (cA (mY K) (pv 2) gW (bI (pv 1)))))))))),?_⟩
  refine⟨(by show 0≤sizeLine;decide),fun l H1 e1 h0 hl=>?_⟩
  refine⟨_,rfl,_,_,rfl,rfl,⟨by decide,by decide⟩,?_⟩
  refine⟨fun mm σ H'=>∃ (xs:List Int)(nb:Int),σ=[some (.int c),some (.int (m:Int)),some (.ref l),some (.int nb),none]∧H' l=some (.lst (xs.map V.int))∧Same H H'∧xs.length≤m∧mm=m - xs.length,⟨m,[],_,rfl,hl,e1,by simp,by simp⟩,?_⟩
  rintro mm σ H2 ⟨xs,nb,rfl,hl2,e2,hx,rfl⟩
  have lz:sizeLine=2 ^ 24:=rfl
  refine⟨_,rfl,_,_,rfl,rfl,(by show (0:Int)<2;decide),rfl,_,rfl,bT (fun g1=>⟨_,rfl,_,_,rfl,rfl,_,rfl,bT (fun g2=>⟨_,rfl,l,_,rfl,.inl (SqL.of hl2),_,rfl,_,_,rfl,rfl,_,rfl,bT (fun g3=>?body) (fun g3=>?exit1)⟩) (fun g2=>bv ?exit2)⟩) (fun g1=>bv ?exit3)⟩
  case body=>
   have g3:=of_decide_eq_true g3
   rw[List.length_map]at g3
   refine⟨fun σ H'=>∃ (ys:List Int)(nb:Int),σ=[some (.int c),some (.int (m:Int)),some (.ref l),some (.int nb),none]∧H' l=some (.lst (ys.map V.int))∧Same H H'∧ys.length=xs.length+1,fun σ' H' ⟨ys,nb',e3,h3,e4,h5⟩=>⟨m - ys.length,by omega,ys,nb',e3,h3,e4,by omega,rfl⟩,?_⟩
   refine⟨_,rfl,.inl ⟨rfl,_,SqL.of hl2⟩,_,rfl,_,_,rfl,rfl,⟨by decide,by decide⟩,_,_,rfl,rfl,(by show (0:Int)<10 ^ 9;decide),l,_,_,rfl,rfl,hl2,(by rw[List.length_map];omega),?_⟩
   refine⟨_,rfl,_,_,rfl,rfl,⟨by decide,by decide⟩,_,_,rfl,rfl,⟨by decide,by decide⟩,xs++[nb % 10 ^ 9],_,rfl,?_,aw e2 h0,by simp⟩
   rw[a9,List.map_append]
   rfl
  all_goals
   refine⟨_,rfl,_,_,rfl,rfl,⟨by decide,by decide⟩,_,_,rfl,rfl,_,_,rfl,rfl,.inr ⟨by decide,by decide⟩,_,_,rfl,rfl,(by show (0:Int)<2147483647;decide),?_⟩
   have b1:=Int.emod_nonneg ((c / 2+7919) * 48271) (show (2147483647:Int)≠0 by decide)
   have b2:=Int.emod_lt_of_pos ((c / 2+7919) * 48271) (show (0:Int)<2147483647 by decide)
   refine⟨_,rfl,_,rfl,by omega,by omega,iI (lo:=0) (n:=((m:Nat):Int).toNat) (fun i σ H'=>∃ (ys:List Int)(nb:Int)(o4:Option V),σ=[some (.int c),some (.int (m:Int)),some (.ref l),some (.int nb),o4]∧0≤nb∧nb≤2147483647∧H' l=some (.lst (ys.map V.int))∧Same H H'∧ys.length=xs.length+i) ⟨xs,_,none,rfl,b1,by omega,hl2,e2,by omega⟩ ?_ ?_⟩
   ·rintro i σ H3 hi ⟨ys,n2,o4,rfl,c1,c2,hl3,e3,hy⟩
    have d1:=Int.emod_nonneg (n2 * (n2 / 1009+69621+(0+(i:Int)))) (show (2147483647:Int)≠0 by decide)
    have d2:=Int.emod_lt_of_pos (n2 * (n2 / 1009+69621+(0+(i:Int)))) (show (0:Int)<2147483647 by decide)
    refine⟨_,rfl,_,rfl,_,_,rfl,rfl,⟨by decide,by decide⟩,_,_,rfl,rfl,_,rfl,_,_,rfl,rfl,_,_,rfl,rfl,.inl ⟨by omega,by omega⟩,_,_,rfl,rfl,(by show (0:Int)<2147483647;decide),?_⟩
    refine⟨_,rfl,.inl ⟨rfl,_,SqL.of hl3⟩,_,rfl,l,_,_,rfl,rfl,hl3,(by rw[List.length_map];omega),?_⟩
    refine⟨_,rfl,_,_,rfl,rfl,ys++[n2 * (n2 / 1009+69621+(0+(i:Int))) % 2147483647],_,_,rfl,by omega,by omega,?_,aw e3 h0,by rw[List.length_append,List.length_singleton];omega⟩
    rw[a9,List.map_append]
    rfl
   ·rintro σ H3 ⟨ys,n2,o4,rfl,c1,c2,hl3,e3,hy⟩
    refine⟨_,rfl,_,rfl,_,rfl,l,_,rfl,SqL.of hl3,fun p H4 e4 h4 hp=>q p H4 (ys.take m) (e3.trans e4) (e3.free h4) (by rw[List.length_take];omega) ?_⟩
    rw[hp,iK (by rw[List.length_map];omega),List.map_take]
end
end K42
namespace K42
open PySem L2
theorem jV {cs:Cs}(ds:Cs){k:Int}(h:k∈cs.map (·.1)):aW (cs++ds) k=aW cs k:=by
 obtain⟨n,hn⟩:=gI h
 unfold aW at hn ⊢
 rw[List.find?_append]
 cases hf:cs.find? (fun x=>decide (x.1=k)) with
 | none=>rw[hf]at hn;cases hn
 | some x=>rfl
theorem qc {cs:Cs}{k n:Int} (h:¬ k∈cs.map (·.1)):aW (cs++[(k,n)]) k=some n:=by
 have hn:=d7 h
 unfold aW at hn ⊢
 rw[List.find?_append]
 cases hf:cs.find? (fun x=>decide (x.1=k)) with
 | some x=>rw[hf]at hn;cases hn
 | none=>
  show Option.map _ (List.find? (fun x:Int×Int=>decide (x.1=k)) [(k,n)])=some n
  rw[List.find?_cons,show decide ((k,n).1=k)=true from decide_eq_true rfl]
  rfl
theorem ow {msg:List Int}{cs:Cs} (ds:Cs):∀ {mo:Option (List Int)},(∀ ks,mo=some ks→∀ k∈ks,k∈cs.map (·.1))→inc msg (cs++ds) mo=inc msg cs mo
 | none,_=>rfl
 | some ks,h=>List.map_congr_left fun k hk=>by rw[jV ds (h ks rfl k hk)]
theorem iV {p:Int}{rows:List aK}{msg:List Int}{fo:Option (List Int)}{ms:List Mix} (F:ux ms):∀ i,i≤ms.length→∀ m∈ms.take i,aW (aR p rows msg fo (ms.take i) []) m.1=some (gc p rows msg fo (aR p rows msg fo (ms.take i) []) m)
 | 0,_,_,h=>by rw[List.take_zero]at h;exact (List.not_mem_nil h).elim
 | i+1,hi,m,h=>by
  have ih:=iV (p:=p) (rows:=rows) (msg:=msg) (fo:=fo) F i (by omega)
  have hlt:i<ms.length:=by omega
  obtain⟨r,er⟩:∃ r,ms[i]?=some r:=⟨_,List.getElem?_eq_getElem hlt⟩
  have tk:ms.take (i+1)=ms.take i++[r]:=by rw[List.take_add_one,er];rfl
  have ck:=cj p rows msg fo (ms.take i) []
  rw[List.map_nil,List.nil_append]at ck
  have nd:=F.nd
  rw[← List.take_append_drop (i+1) ms,List.map_append]at nd
  have nd:=(List.nodup_append.mp nd).1
  rw[tk,List.map_append]at nd
  have fr:¬ r.1∈(aR p rows msg fo (ms.take i) []).map (·.1):=fun z=>by
   rw[ck]at z
   exact (List.nodup_append.mp nd).2.2 _ z _ (by simp) rfl
  rw[tk]at h ⊢
  rw[gJ]
  rcases List.mem_append.mp h with h|h
  ·have mk:m.1∈(aR p rows msg fo (ms.take i) []).map (·.1):=by rw[ck];exact List.mem_map_of_mem h
   rw[jV _ mk,ih m h]
   unfold gc
   rw[ow]
   intro ks hks k hk
   rw[ck]
   obtain⟨j,hj,ej⟩:=List.getElem_of_mem h
   rw[List.length_take]at hj
   have ej':ms[j]?=some m:=by
    rw[List.getElem_take]at ej
    rw[List.getElem?_eq_getElem (by omega),ej]
   have:=(F.ahead j m ks ej' hks).2 k hk
   obtain⟨y,hy,e⟩:=List.mem_map.mp this
   exact List.mem_map.mpr ⟨y,(List.take_sublist_take_left (by omega)).subset hy,e⟩
  ·rw[List.mem_singleton.mp h,qc fr]
   unfold gc
   rw[ow]
   intro ks hks k hk
   rw[ck]
   exact (F.ahead i r ks er hks).2 k hk
theorem ud {p:Int}{rows:List aK}{msg:List Int}{fo:Option (List Int)}{ms:List Mix} (F:ux ms) {m:Mix} (h:m∈ms):aW (aR p rows msg fo ms []) m.1=some (gc p rows msg fo (aR p rows msg fo ms []) m):=by
 have:=iV (p:=p) (rows:=rows) (msg:=msg) (fo:=fo) F ms.length (Nat.le_refl _)
 rw[List.take_length]at this
 exact this m h
def i6 (p:Int)(many:Nat)(acc:List Int)(m:Int)(r:List Int):List Int:=(List.range many).map fun k=>(acc.getD k 0+m * r.getD k 0) % p
def fk (p:Int)(many:Nat)(L:Int→List Int):List Int→List Int→List Int→List Int
 | acc,m::ms,t::ts=>fk p many L (i6 p many acc m (L t)) ms ts
 | acc,_,_=>acc
theorem p8 {p m:Int}:∀ {many:Nat}{a b:List Int},a.length=many→b.length=many→i6 p many a m b=List.zipWith (fun x y=>(x+m * y) % p) a b
 | 0,[],[],_,_=>rfl
 | n+1,x::a,y::b,h1,h2=>by
  have ih:=p8 (p:=p) (m:=m) (many:=n) (a:=a) (b:=b) (by simpa using h1) (by simpa using h2)
  unfold i6 at ih ⊢
  rw[List.range_succ_eq_map,List.map_cons,List.map_map,List.zipWith_cons_cons,← ih]
  rfl
theorem rg (p m:Int):∀ (a b v:List Int),b.length=a.length→p ∣ Mx.dot (List.zipWith (fun x y=>(x+m * y) % p) a b) v - (Mx.dot a v+m * Mx.dot b v)
 | [],[],v,_=>by simp[Mx.dot]
 | x::a,y::b,[],_=>by simp[Mx.dot]
 | x::a,y::b,z::v,h=>by
  have ih:=rg p m a b v (by simpa using h)
  have h1:=Mx.dvd_emod_sub p (x+m * y)
  show p ∣ ((x+m * y) % p * z+Mx.dot (List.zipWith (fun x y=>(x+m * y) % p) a b) v) - ((x * z+Mx.dot a v)+m * (y * z+Mx.dot b v))
  have:((x+m * y) % p * z+Mx.dot (List.zipWith (fun x y=>(x+m * y) % p) a b) v) - ((x * z+Mx.dot a v)+m * (y * z+Mx.dot b v))=((x+m * y) % p - (x+m * y)) * z+(Mx.dot (List.zipWith (fun x y=>(x+m * y) % p) a b) v - (Mx.dot a v+m * Mx.dot b v)):=by grind
  rw[this]
  exact Int.dvd_add (Int.dvd_mul_of_dvd_left h1) ih
theorem oK {p:Int}{many:Nat}{L:Int→List Int}{v:List Int}:∀ {acc ms ts:List Int},acc.length=many→(∀ t∈ts,(L t).length=many)→p ∣ Mx.dot (fk p many L acc ms ts) v - (Mx.dot acc v+Mx.dot ms (ts.map fun t=>Mx.dot (L t) v))
 | acc,[],ts,h,_=>by
  have:fk p many L acc [] ts=acc:=by cases ts <;> rfl
  rw[this]
  simp[Mx.dot]
 | acc,m::ms,[],h,_=>by
  show p ∣ Mx.dot acc v - (Mx.dot acc v+Mx.dot (m::ms) [])
  simp[Mx.dot]
 | acc,m::ms,t::ts,h,hl=>by
  have hb:=hl t (by simp)
  have ih:=oK (p:=p) (many:=many) (L:=L) (v:=v) (acc:=i6 p many acc m (L t)) (ms:=ms) (ts:=ts) (by unfold i6;simp) fun u hu=>hl u (by simp[hu])
  have h1:=rg p m acc (L t) v (by omega)
  rw[← p8 h hb]at h1
  show p ∣ Mx.dot (fk p many L (i6 p many acc m (L t)) ms ts) v - (Mx.dot acc v+(m * Mx.dot (L t) v+Mx.dot ms (ts.map fun t=>Mx.dot (L t) v)))
  have:=Int.dvd_add h1 ih
  have e:(Mx.dot (i6 p many acc m (L t)) v - (Mx.dot acc v+m * Mx.dot (L t) v))+(Mx.dot (fk p many L (i6 p many acc m (L t)) ms ts) v - (Mx.dot (i6 p many acc m (L t)) v+Mx.dot ms (ts.map fun t=>Mx.dot (L t) v)))=Mx.dot (fk p many L (i6 p many acc m (L t)) ms ts) v - (Mx.dot acc v+(m * Mx.dot (L t) v+Mx.dot ms (ts.map fun t=>Mx.dot (L t) v))):=by omega
  rw[e]at this
  exact this
theorem lJ (n:Nat)(v:List Int):Mx.dot (List.replicate n 0) v=0:=by
 induction n generalizing v with
 | zero=>rfl
 | succ n ih=>
  cases v with
  | nil=>rfl
  | cons x v=>
   show 0 * x+Mx.dot (List.replicate n 0) v=0
   rw[ih v]
   omega
theorem oF {p a b:Int}(h:p ∣ a - b):a % p=b % p:=Int.emod_eq_emod_iff_emod_sub_eq_zero.mpr (Int.emod_eq_zero_of_dvd h)
theorem jJ {bs:List (Str×List Str)}(A:pj bs):∀ k,k≤bs.length→∀ (i:Nat) x,(bL bs k)[i]?=some x→∃ b∈bs,b.1=x∧∀ y∈b.2,y∈(bL bs k).take i
 | 0,_,i,x,h=>by simp[bL]at h
 | k+1,hk,i,x,h=>by
  have hl:=(iB A k (by omega)).2
  unfold bL at h ⊢
  by_cases c:i<(bL bs k).length
  ·rw[List.getElem?_append_left c]at h
   obtain⟨b,hb,e,hy⟩:=jJ A k (by omega) i x h
   exact⟨b,hb,e,fun y yy=>by rw[List.take_append_of_le_length (by omega)];exact hy y yy⟩
  ·rw[List.getElem?_append_right (by omega)]at h
   have ei:i=(bL bs k).length:=by
    by_cases c2:i - (bL bs k).length=0
    ·omega
    ·rw[List.getElem?_eq_none (by simp;omega)]at h;cases h
   subst ei
   rw[Nat.sub_self]at h
   obtain⟨z,ez,_,_⟩:=ee A (ts:=bL bs k) (by omega)
   rw[ez]at h
   have h:z=x:=by simpa using h
   subst h
   unfold b3 at ez
   obtain⟨b,hf,hb⟩:=Option.map_eq_some_iff.mp ez
   refine⟨b,List.mem_of_find?_eq_some hf,hb,fun y hy=>?_⟩
   rw[List.take_append_of_le_length (Nat.le_refl _),List.take_length]
   have hr:=List.find?_some hf
   unfold bY at hr
   simp only[Bool.and_eq_true,List.all_eq_true,decide_eq_true_eq]at hr
   exact hr.2 y hy
theorem r8 {α β:Type}(f:α→List β):∀ (ns:List α)(i:Nat)(m:β),(ns.flatMap f)[i]?=some m→∃ j x,ns[j]?=some x∧m∈f x∧∀ m'∈(ns.take j).flatMap f,m'∈(ns.flatMap f).take i
 | [],i,m,h=>by simp at h
 | a::ns,i,m,h=>by
  rw[List.flatMap_cons]at h ⊢
  by_cases c:i<(f a).length
  ·rw[List.getElem?_append_left c]at h
   exact⟨0,a,rfl,List.mem_of_getElem? h,fun m' hm=>by simp at hm⟩
  ·rw[List.getElem?_append_right (by omega)]at h
   obtain⟨j,x,hj,hm,k⟩:=r8 f ns _ m h
   refine⟨j+1,x,hj,hm,fun m' hm'=>?_⟩
   rw[List.take_append,List.take_of_length_le (by omega)]
   rw[List.take_succ_cons,List.flatMap_cons]at hm'
   rcases List.mem_append.mp hm' with z|z
   ·exact List.mem_append_left _ z
   ·exact List.mem_append_right _ (k m' z)
theorem b6 {α:Type}{xs:List α} (nd:xs.Nodup) {i j:Nat}{x:α} (h1:xs[i]?=some x) (h2:xs[j]?=some x):i=j:=by
 obtain⟨hi,e1⟩:=List.getElem?_eq_some_iff.mp h1
 obtain⟨hj,e2⟩:=List.getElem?_eq_some_iff.mp h2
 exact (List.getElem_inj nd).mp (e1.trans e2.symm)
abbrev LT:=Int×Str×Str
def aG (R:List LT)(x:Str):List Int:=(R.filter fun r=>decide (r.2.2=x)).map (·.1)
structure LN (S : NS) (ord : List Str) (R : List LT) : Prop where
  names : S.names.Perm ord
  nd : ord.Nodup
  home : eJ S.home = .str "h"
  zero : ord[0]? = some ("h" : Str)
  ties : S.ties.map (fun t => (t.1, t.2.1, t.2.2.1)) = R
  ok : ∀ r ∈ R, ∃ u v : Nat, u < v ∧ ord[u]? = some r.2.1 ∧ ord[v]? = some r.2.2
  asc : (R.map (·.1)).Pairwise (· < ·)
  len : ord.length ≤ 20
  rlen : R.length ≤ 40
section
variable {S : NS}{ord : List Str}{R : List LT}
theorem LN.tie (h:LN S ord R){t:Tie}(ht:t∈S.ties):∃ u v:Nat,u<v∧ord[u]?=some t.2.1∧ord[v]?=some t.2.2.1:=h.ok (t.1,t.2.1,t.2.2.1) (h.ties▸List.mem_map_of_mem (f:=fun t:Tie=>(t.1,t.2.1,t.2.2.1)) ht)
theorem LN.bnames (h:LN S ord R):(bx S).map (·.1)=S.names:=by
 unfold bx
 rw[List.map_map]
 exact List.map_id _
theorem LN.ends (h:LN S ord R):∀ t∈S.ties,t.2.2.1∈S.names:=fun t ht=>by
 obtain⟨_,_,_,_,z⟩:=h.tie ht
 exact h.names.mem_iff.mpr (List.mem_of_getElem? z)
theorem LN.acyc (h:LN S ord R):pj (bx S) where
 nd:=by rw[h.bnames];exact h.names.nodup_iff.mpr h.nd
 ends:=fun b hb y hy=>by
  rw[h.bnames]
  unfold bx at hb
  obtain⟨x,hx,rfl⟩:=List.mem_map.mp hb
  unfold c9 at hy
  obtain⟨t,ht,rfl⟩:=List.mem_map.mp hy
  obtain⟨_,_,_,z,_⟩:=h.tie (List.mem_filter.mp ht).1
  exact h.names.mem_iff.mpr (List.mem_of_getElem? z)
 rk:=by
  refine⟨fun x=>ord.idxOf x,fun b hb y hy=>?_⟩
  unfold bx at hb
  obtain⟨x,hx,rfl⟩:=List.mem_map.mp hb
  unfold c9 at hy
  obtain⟨t,ht,rfl⟩:=List.mem_map.mp hy
  obtain⟨ht,htx⟩:=List.mem_filter.mp ht
  have htx:t.2.2.1=x:=of_decide_eq_true htx
  obtain⟨u,v,uv,h1,h2⟩:=h.tie ht
  rw[htx]at h2
  have ix:∀ (i:Nat) z,ord[i]?=some z→ord.idxOf z=i:=fun i z hz=>by
   have hm:=List.mem_of_getElem? hz
   have hl:=List.idxOf_lt_length_of_mem hm
   exact b6 h.nd (by rw[List.getElem?_eq_getElem hl,List.getElem_idxOf hl]) hz
  show ord.idxOf t.2.1<ord.idxOf x
  rw[ix _ _ h1,ix _ _ h2]
  exact uv
theorem LN.mixes (h:LN S ord R):(aq S).Perm (S.ties.map fun t=>(t.1,cD S t.2.1)):=by
 have bl:(bx S).length=S.names.length:=List.length_map _
 obtain⟨ond,olen⟩:=iB h.acyc S.names.length (by omega)
 have osub:∀ x∈bL (bx S) S.names.length,x∈S.names:=fun x hx=>by
  have:=mx h.acyc S.names.length (by omega) x hx
  rw[h.bnames]at this
  exact this
 have ofull:=Mw.sub_full _ _ ond osub (by omega)
 have fin:∀ t∈S.ties,t.2.1∈bL (bx S) S.names.length:=fun t ht=>by
  obtain⟨_,_,_,h1,_⟩:=h.tie ht
  exact ofull _ (h.names.mem_iff.mpr (List.mem_of_getElem? h1))
 have e1:aq S=((bL (bx S) S.names.length).flatMap fun x=>S.ties.filter fun t=>decide (t.2.1=x)).map fun t=>(t.1,cD S t.2.1):=by
  unfold aq K42.mixes NS.outOf
  rw[List.map_flatMap]
  congr 1
  funext x
  rw[List.map_map]
  refine List.map_congr_left fun t ht=>?_
  have ht:t.2.1=x:=of_decide_eq_true (List.mem_filter.mp ht).2
  rw[ht]
  rfl
 rw[e1]
 exact (Mw.flat_perm (fun t:Tie=>t.2.1) _ S.ties ond fin).map _
theorem LN.keys (h:LN S ord R):((aq S).map (·.1)).Perm (R.map (·.1)):=by
 have:=h.mixes.map (·.1)
 rw[List.map_map]at this
 rw[← h.ties,List.map_map]
 exact this
theorem LN.into (h:LN S ord R)(x:Str):S.into x=aG R x:=by
 unfold NS.into aG
 rw[← h.ties,List.filter_map,List.map_map]
 rfl
theorem LN.intoz (h:LN S ord R)(x:Str):(S.into x).length≤1000:=by
 rw[h.into]
 unfold aG
 rw[List.length_map]
 have:=List.length_filter_le (fun r:LT=>decide (r.2.2=x)) R
 have:=h.rlen
 omega
theorem LN.fits (h:LN S ord R):ux (aq S) where
 nd:=h.keys.nodup_iff.mpr (h.asc.imp fun z=>Int.ne_of_lt z)
 ahead:=fun i m ks hi hk=>by
  have bl:(bx S).length=S.names.length:=List.length_map _
  unfold aq K42.mixes at hi ⊢
  obtain⟨j,x,hj,hm,up⟩:=r8 _ _ _ _ hi
  obtain⟨k0,_,rfl⟩:=List.mem_map.mp hm
  have hk:cD S x=some ks:=hk
  have ek:ks=S.into x:=by
   unfold cD at hk
   by_cases c:V.str x=eJ S.home
   ·rw[if_pos c]at hk;cases hk
   ·rw[if_neg c]at hk;exact (Option.some.inj hk).symm
  subst ek
  refine⟨h.intoz x,fun k hk=>?_⟩
  unfold NS.into at hk
  obtain⟨t,ht0,rfl⟩:=List.mem_map.mp hk
  obtain⟨ht1,htx⟩:=List.mem_filter.mp ht0
  obtain⟨b,hb,e,hy⟩:=jJ h.acyc S.names.length (by omega) j x hj
  unfold bx at hb
  obtain⟨x',_,rfl⟩:=List.mem_map.mp hb
  have e:x'=x:=e
  subst e
  have y:=hy t.2.1 (List.mem_map_of_mem (f:=fun t:Tie=>t.2.1) (List.mem_filter.mpr ⟨ht1,htx⟩))
  have:=up (t.1,cD S t.2.1) (List.mem_flatMap.mpr ⟨_,y,List.mem_map.mpr ⟨t.1,List.mem_map_of_mem (f:=fun t:Tie=>t.1) (List.mem_filter.mpr ⟨ht1,decide_eq_true rfl⟩),rfl⟩⟩)
  exact List.mem_map_of_mem (f:=fun m:Mix=>m.1) this
theorem LN.few (h:LN S ord R):(aq S).length<64:=by
 have:=h.keys.length_eq
 rw[List.length_map,List.length_map]at this
 have:=h.rlen
 omega
structure LawRows (p : Int) (many : Nat) (rows : List aK) (fo : Option (List Int)) (R : List LT) (L : Int → List Int) : Prop where
  eq : ∀ r ∈ R, L r.1 = if kf fo r.1 then List.replicate many 0 else if r.2.1 = "h" then bp rows r.1 else fk p many L (List.replicate many 0) (bp rows r.1) (aG R r.2.1)
  len : ∀ r ∈ R, (L r.1).length = many
  fit : ∀ r ∈ R, InF p (L r.1)
theorem LN.flow (h:LN S ord R){p:Int}{many:Nat}{rows:List aK}{fo:Option (List Int)}{L:Int→List Int} (hL:LawRows p many rows fo R L) (msg:List Int):∀ (n:Nat),∀ r∈R,ord[n]?=some r.2.1→aW (aR p rows msg fo (aq S) []) r.1=some (Mx.dot (L r.1) msg % p):=by
 intro n
 induction n using Nat.strongRecOn with
 | ind n ih=>
  intro r hr hn
  obtain⟨t,ht,e⟩:=List.mem_map.mp (h.ties▸hr)
  have e1:t.1=r.1:=congrArg Prod.fst e
  have e2:t.2.1=r.2.1:=congrArg (fun z:LT=>z.2.1) e
  have hm:(r.1,cD S r.2.1)∈aq S:=h.mixes.mem_iff.mpr (List.mem_map.mpr ⟨t,ht,by rw[e1,e2]⟩)
  rw[ud h.fits hm,hL.eq r hr]
  congr 1
  unfold gc
  show (if kf fo r.1=true then 0 else Mx.rowSum p (bp rows r.1) (inc msg (aR p rows msg fo (aq S) []) (cD S r.2.1)))=_
  cases hf:kf fo r.1 with
  | true=>
   rw[if_pos rfl,if_pos rfl,lJ]
   simp
  | false=>
   rw[if_neg (fun z=>nomatch z),if_neg (fun z=>nomatch z)]
   by_cases c:r.2.1=("h":Str)
   ·rw[if_pos c]
    have:cD S r.2.1=none:=by
     unfold cD
     rw[h.home,if_pos (by rw[c])]
    rw[this,Mx.rowSum_eq]
    rfl
   ·rw[if_neg c]
    have hx:cD S r.2.1=some (aG R r.2.1):=by
     unfold cD
     rw[h.home,if_neg (fun z=>c (by injection z)),h.into]
    rw[hx,Mx.rowSum_eq]
    have up:∀ k∈aG R r.2.1,(L k).length=many∧aW (aR p rows msg fo (aq S) []) k=some (Mx.dot (L k) msg % p):=fun k hk=>by
     unfold aG at hk
     obtain⟨r',hr',rfl⟩:=List.mem_map.mp hk
     obtain⟨hr',hx'⟩:=List.mem_filter.mp hr'
     have hx':r'.2.2=r.2.1:=of_decide_eq_true hx'
     obtain⟨u,v,uv,hu,hv⟩:=h.ok r' hr'
     rw[hx']at hv
     have:=b6 h.nd hv hn
     exact⟨hL.len r' hr',ih u (by omega) r' hr' hu⟩
    have ei:inc msg (aR p rows msg fo (aq S) []) (some (aG R r.2.1))=((aG R r.2.1).map fun k=>Mx.dot (L k) msg).map (· % p):=by
     unfold inc
     rw[List.map_map]
     refine List.map_congr_left fun k hk=>?_
     rw[(up k hk).2]
     rfl
    rw[ei,Mx.dot_map_mod_r]
    have:=oK (p:=p) (many:=many) (L:=L) (v:=msg) (acc:=List.replicate many 0) (ms:=bp rows r.1) (ts:=aG R r.2.1) (by simp) fun k hk=>(up k hk).1
    rw[lJ,Int.zero_add]at this
    exact (oF this).symm
theorem LN.flow' (h:LN S ord R){p:Int}{many:Nat}{rows:List aK}{fo:Option (List Int)}{L:Int→List Int} (hL:LawRows p many rows fo R L) (msg:List Int) {r:LT} (hr:r∈R):aW (aR p rows msg fo (aq S) []) r.1=some (Mx.dot (L r.1) msg % p):=by
 obtain⟨u,_,_,hu,_⟩:=h.ok r hr
 exact h.flow hL msg u r hr hu
theorem LN.col (h:LN S ord R){p:Int}{many:Nat}{rows:List aK}{fo:Option (List Int)}{L:Int→List Int} (hL:LawRows p many rows fo R L) {r:LT} (hr:r∈R):de p rows fo (aq S) many r.1=L r.1:=by
 have hl:=hL.len r hr
 unfold de
 apply List.ext_getElem?
 intro j
 rw[List.getElem?_map]
 by_cases c:j<many
 ·rw[List.getElem?_range c,List.getElem?_eq_getElem (by omega)]
  show some ((aW (aR p rows (Mx.onesRow many j) fo (aq S) []) r.1).getD 0)=_
  rw[h.flow' hL _ hr,Mx.dot_comm,Mx.dot_onesRow many j _ hl]
  have hj:(L r.1).getD j 0=(L r.1)[j]'(by omega):=b8 (List.getElem?_eq_getElem _)
  have:=hL.fit r hr _ (List.getElem_mem (l:=L r.1) (n:=j) (by omega))
  rw[hj]
  show some ((L r.1)[j]'(by omega) % p)=_
  rw[Int.emod_eq_of_lt this.1 this.2]
 ·rw[List.getElem?_eq_none (by simpa using c),List.getElem?_eq_none (by omega)]
  rfl
end
end K42
namespace K42
open PySem L2
open PyProof.Rows (boot_list boot_int boot_bool boot_tuple boot_str boot_dict boot_all boot_sorted)
def TieT (H:Hp)(v:V)(r:LT):Prop:=∃ b,v=.ref b∧H b=some (.tup [.int r.1,.str r.2.1,.str r.2.2])
def TiesS (H:Hp)(l:Addr)(R:List LT):Prop:=∃ xs,H l=some (.lst xs)∧Paired (TieT H) xs R
theorem TieT.mono {H H':Hp}(e:Same H H'){v:V}{r:LT}:TieT H v r→TieT H' v r:=fun⟨b,a,h⟩=>⟨b,a,e _ _ h⟩
theorem TiesS.mono {H H':Hp}{l:Addr}{R:List LT} (e:Same H H') (h:TiesS H l R):TiesS H' l R:=by
 obtain⟨xs,h1,h2⟩:=h
 exact⟨xs,e _ _ h1,Paired.mapP h2 fun _ _ z=>z.mono e⟩
def eM (R:List LT)(many:Nat)(x:Str):Nat:=if x="h" then many else (aG R x).length
section
variable {P : Program}{w : World}{K : PySem.W.Frag}{mg : Str → Option Value}{base : Heap}
def eX:Sp:=fun vs H Q _=>∃ (tl:Addr)(x:Str)(R:List LT),vs=[.ref tl,.str x]∧TiesS H tl R∧R.length≤1000∧∀ l H',Same H H'→H l=none→H' l=some (.lst ((aG R x).map V.int))→Q (.ref l) H'
abbrev m9:Stmt:=top 50
theorem t3:am ["_law_ties","_law_name"] ["_law_ties","_law_name"] (ah m9):=⟨rfl,rfl,rfl,by decide +kernel,rfl,by decide +kernel,by decide +kernel⟩
theorem tR {f:Addr}{fd:FuncData} (F:Fun K "_law_into" "_law_into" m9 f fd):FnOk P w K mg base CX0 1 f fd ["_law_ties","_law_name"] eX:=by
 refine F.ok t3 (fun vs H Q E h=>?_) (fun cdv A outer s H vs Q E hr h=>?_)
 ·obtain⟨tl,x,R,rfl,_⟩:=h
  rfl
 ·obtain⟨tl,x,R,rfl,⟨xs,hx,hp⟩,hz,q⟩:=h
  have hl:=Paired.length hp
  refine⟨_,(af (ay (aO rfl (ao (nT:=1) (js:=[1]) (N':=["_law_tie","_law_name"]) rfl rfl (by kernel_rfl)) (cS K (pv 0))
  (fun _ _ _ _ _=>(ai (i:=0) (show List.Nodup (["_law_tie","_law_name"]:List Str) by decide +kernel) rfl (by first|exact Or.inl rfl|exact Or.inr rfl)))
  (fun _ _ _ _ _=>(gX (av cJ (aV (su K) (pv 0) aj (fun _ _=>rfl)) (pv 1) (aE _))))
  (fun _ _ _ _ _=>(aV (su K) (pv 0) aj (fun _ _=>rfl)))))),?_⟩
  refine⟨_,rfl,tl,rfl,⟨_,SqL.of hx⟩,ki (keep:=fun i=>decide ((R.getD i (0,"","")).2.2=x)) (g:=fun i=>.int (R.getD i (0,"","")).1) hx (by omega) (fun i v H2 ex e2=>?_) (fun l H2 h2 e2 hl2=>q l H2 e2 h2 ?_)⟩
  ·obtain⟨r,er,b,rfl,hb⟩:=Paired.at hp ex
   have gd:R.getD i (0,"","")=r:=by rw[List.getD_eq_getElem?_getD,er];rfl
   rw[gd]
   refine⟨_,rfl,b,_,2,.str r.2.2,rfl,rfl,SqT.of (e2 _ _ hb),rfl,_,rfl,rfl,_,rfl,?_⟩
   by_cases c:r.2.2=x
   ·rw[decide_eq_true (show V.str r.2.2=V.str x by rw[c]),decide_eq_true c]
    exact ci ⟨_,rfl,b,_,0,_,rfl,rfl,SqT.of (e2 _ _ hb),rfl,rfl,rfl,Same.refl _⟩
   ·rw[decide_eq_false (show ¬ V.str r.2.2=V.str x from fun z=>c (by injection z)),decide_eq_false c]
    exact bv ⟨rfl,Same.refl _⟩
  ·rw[hl2,hl]
   congr 2
   have:=fU (d:=((0,"",""):LT)) (fun r=>decide (r.2.2=x)) (fun r=>V.int r.1) R
   rw[this]
   unfold aG
   rw[List.map_map]
   rfl
def lR (p:Int)(many:Nat)(R0:List LT)(y:aK)(r:LT):Prop:=y.1=r.1∧InF p y.2.2∧y.2.2.length=eM R0 many r.2.1
def jy:Sp:=fun vs H Q _=>∃ (tl:Addr)(many:Nat)(p c:Int)(R:List LT),vs=[.ref tl,.int (many:Int),.int p,.int c]∧TiesS H tl R∧R.length≤40∧(R.map (·.1)).Nodup∧0<p∧many≤14∧(∀ x,(aG R x).length≤14)∧∀ d H' rows,Same H H'→H d=none→PlanAt H' d rows→Paired (lR p many R) rows R→Q (.ref d) H'
theorem kT {rows:List aK}{n:Int} (h:¬ n∈rows.map (·.1)):bA rows n=none:=List.find?_eq_none.mpr fun x hx z=>h (of_decide_eq_true z▸List.mem_map_of_mem hx)
theorem PlanAt.put {H:Hp}{d a:Addr}{rows:List aK}{n:Int}{ns:List Int} (h:PlanAt H d rows) (hn:¬ n∈rows.map (·.1)) (ha:H a=some (.lst (ns.map V.int))):PlanAt (upd H d (.dK (cz (aU rows) (Sum.inl n) (.ref a)))) d (rows++[(n,a,ns)]) where
 dict:=by
  rw[a9,d0 _ (by rw[cU,kT hn];rfl)]
  unfold aU
  rw[List.map_append]
  rfl
 row:=fun r hr=>by
  have k:∀ {b:Addr}{xs:List V},H b=some (.lst xs)→upd H d (.dK (cz (aU rows) (Sum.inl n) (.ref a))) b=some (.lst xs):=fun {b xs} hb=>by
   rw[aa (fun z=>by rw[z,h.dict]at hb;cases hb)];exact hb
  rcases List.mem_append.mp hr with z|z
  ·exact k (h.row r z)
  ·rw[List.mem_singleton.mp z];exact k ha
abbrev m8:Stmt:=top 51
theorem sc_Lplan:am ["_law_ties","_law_many","_law_prime","_law_cell","_law_plan_here","_law_k","_law_tie","_law_xs","_law_wide"] ["_law_ties","_law_many","_law_prime","_law_cell"] (ah m8):=⟨rfl,rfl,rfl,by decide +kernel,rfl,by decide +kernel,by decide +kernel⟩
theorem tQ {f:Addr}{fd:FuncData} (F:Fun K "_law_plan" "_law_plan" m8 f fd) (T:sL mg) (D_Lstream:Df P w K mg base 1 "_law_stream" ["_law_cell","_law_many"] cX) (D_Linto:Df P w K mg base 1 "_law_into" ["_law_ties","_law_name"] eX):FnOk P w K mg base CX0 2 f fd ["_law_ties","_law_many","_law_prime","_law_cell"] jy:=by
 refine F.ok sc_Lplan (fun vs H Q E h=>?_) (fun cdv A outer s H vs Q E hr h=>?_)
 ·obtain⟨tl,many,p,c,R,rfl,_⟩:=h
  rfl
 ·obtain⟨tl,many,p,c,R,rfl,⟨ts,hts,hp⟩,hz,rnd,hp0,hm,hin,q⟩:=h
  have ND:=sc_Lplan.nd
  have hl:=Paired.length hp
  refine⟨_,(ad (au (i:=4) ND rfl (by first|exact Or.inl rfl|exact Or.inr rfl) dM)
 (ad (bt PassesOwn.never rfl (qN K rfl T.n_enumerate (a8 (pv 0) ae)) (gE K (n:=2) rfl (ak (ai (i:=5) ND rfl (by first|exact Or.inl rfl|exact Or.inr rfl)) (ak (ai (i:=6) ND rfl (by first|exact Or.inl rfl|exact Or.inr rfl)) bh)))
  (ad (au (i:=7) ND rfl (by first|exact Or.inl rfl|exact Or.inr rfl) (aA D_Lstream (hr.mono (by decide)) rfl (a8 (ax bS (pv 3) (pv 5)) (a8 aj ae))))
 (ad (au (i:=8) ND rfl (by first|exact Or.inl rfl|exact Or.inr rfl) (pv 1))
 (ad (cf (av op_ne (aV (su K) (pv 6) aj (fun _ _=>rfl)) bu (aE _))
  (af (au (i:=8) ND rfl (by first|exact Or.inl rfl|exact Or.inr rfl) (aB (j6 K) rfl T.n_len boot_len (a8 (aA D_Linto (hr.mono (by decide)) rfl (a8 (pv 0) (a8 (aV (su K) (pv 6) aj (fun _ _=>rfl)) ae))) ae))))
  aH)
 (af (cw (b7 hr) (pv 4) (aV (su K) (pv 6) aj (fun _ _=>rfl)) (aO rfl (ao (nT:=1) (js:=[2,7]) (N':=["_law_j","_law_prime","_law_xs"]) rfl rfl (by kernel_rfl)) (bJ rfl T.n_range (a8 (pv 8) ae))
  (fun _ _ _ _ _=>(ai (i:=0) (show List.Nodup (["_law_j","_law_prime","_law_xs"]:List Str) by decide +kernel) rfl (by first|exact Or.inl rfl|exact Or.inr rfl)))
  (fun _ _ _ _ _=>aT)
  (fun _ _ _ _ _=>(ax aS (aV (cg K) (pv 2) (pv 0) (fun _ _=>rfl)) (pv 1)))) rfl))))))
 (af (ay (pv 4))))),?_⟩
  intro d hd
  refine⟨_,rfl,tl,ts,rfl,by rw[aa (ag hts hd)];exact hts,oA (K:=K) (a:=tl) (xs:=ts) (fun i σ H'=>(∃ o5 o6 o7 o8,σ=[some (.ref tl),some (.int many),some (.int p),some (.int c),some (.ref d),o5,o6,o7,o8])∧Same H H'∧∃ rows,PlanAt H' d rows∧Paired (lR p many R) rows (R.take i))
   ⟨⟨none,none,none,none,rfl⟩,az (Same.refl _) hd,[],⟨a9,fun r h=>(List.not_mem_nil h).elim⟩,by rw[List.take_zero];exact .nil⟩ (fun i σ H' _ h=>SqL.of (h.2.1 _ _ hts)) ?_ ?_⟩
  ·rintro i x T' σ H3 ex ⟨⟨o5,o6,o7,o8,rfl⟩,e3,rows,G3,hk3⟩ hT
   obtain⟨r,er,b,rfl,hb⟩:=Paired.at hp ex
   have eT:Same H3 (upd H3 T' (.tup [.int i,.ref b])):=az (Same.refl _) hT
   generalize upd H3 T' (.tup [.int i,.ref b])=H4 at eT
   have e4:=e3.trans eT
   refine⟨_,rfl,_,rfl,_,_,rfl,rfl,c+i,14,rfl,by decide,fun xl H5 xs e5 h5 hxl hx5=>?_⟩
   have e05:=e4.trans e5
   refine⟨_,rfl,?_⟩
   have kn:r.1∉rows.map (·.1):=fun hm=>by
    obtain⟨y,hy,ey⟩:=List.mem_map.mp hm
    obtain⟨j,hj,ej⟩:=List.getElem_of_mem hy
    obtain⟨r',er',h',_⟩:=Paired.at hk3 (List.getElem?_eq_getElem hj)
    have jl:=Paired.length hk3
    rw[List.length_take]at jl
    rw[List.getElem?_take]at er'
    have er'':R[j]?=some r':=by
     by_cases c:j<i
     ·rw[if_pos c]at er';exact er'
     ·rw[if_neg c]at er';cases er'
    have:=b6 rnd (i:=j) (j:=i) (x:=r.1) (by rw[List.getElem?_map,er''];show some r'.1=_;rw[← h',ej,ey]) (by rw[List.getElem?_map,er];rfl)
    omega
   have tk:R.take (i+1)=R.take i++[r]:=by rw[List.take_add_one,er];rfl
   have w14:eM R many r.2.1≤14:=by
    unfold eM
    by_cases c0:r.2.1=("h":Str)
    ·rw[if_pos c0];exact hm
    ·rw[if_neg c0];exact hin _
   refine⟨fun σ' H6=>σ'=[some (.ref tl),some (.int many),some (.int p),some (.int c),some (.ref d),some (.int i),some (.ref b),some (.ref xl),some (.int (eM R many r.2.1:Nat))]∧Same H5 H6,?_,?_⟩
   ·rintro σ' H6 ⟨rfl,e6⟩
    have e06:=e05.trans e6
    refine⟨_,rfl,_,rfl,by omega,by omega,?_⟩
    refine oS (n:=((eM R many r.2.1:Nat):Int).toNat) (fun k=>.int (xs.getD k 0 % p)) (by omega) (fun k H7 hk e7=>?_) (fun l H7 h7 e7 hl7=>?_)
    ·have hk':k<xs.length:=by omega
     refine⟨_,rfl,_,rfl,xl,_,_,.int xs[k],rfl,rfl,SqL.of (e7 _ _ (e6 _ _ hx5)),?_,_,rfl,_,_,rfl,rfl,hp0,?_,Same.refl _⟩
     ·rw[Int.zero_add]
      exact bc (by rw[List.getElem?_map,List.getElem?_eq_getElem hk'];rfl)
     ·rw[List.getD_eq_getElem?_getD,List.getElem?_eq_getElem hk']
      rfl
    have e07:=e06.trans e7
    have e37:=((eT.trans e5).trans e6).trans e7
    have P7:=G3.mono e37
    rw[Int.toNat_natCast]at hl7
    have hl7':H7 l=some (.lst (((List.range (eM R many r.2.1)).map fun k=>xs.getD k 0 % p).map V.int)):=by
     rw[hl7,List.map_map]
     rfl
    have jl:=Paired.length hk3
    rw[List.length_take]at jl
    refine⟨_,rfl,_,rfl,b,_,0,.int r.1,rfl,rfl,SqT.of (e07 _ _ hb),rfl,d,_,rfl,DPut.k (k:=Sum.inl r.1) P7.dict (by unfold aU;rw[List.length_map];show rows.length<2 ^ 24;omega),⟨_,_,_,_,rfl⟩,aw e07 hd,_,P7.put kn hl7',?_⟩
    rw[tk]
    refine Paired.snoc' hk3 ⟨rfl,fun z hz=>?_,by simp⟩
    obtain⟨k,_,rfl⟩:=List.mem_map.mp hz
    exact⟨Int.emod_nonneg _ (by omega),Int.emod_lt_of_pos _ hp0⟩
   ·refine⟨_,rfl,b,_,1,.str r.2.1,rfl,rfl,SqT.of (e05 _ _ hb),rfl,rfl,_,rfl,bT (fun g=>?_) (fun g=>?_)⟩
    ·have g:¬ r.2.1=("h":Str):=fun z=>by rw[z]at g;exact absurd g (by decide)
     refine⟨_,rfl,_,rfl,b,_,1,.str r.2.1,rfl,rfl,SqT.of (e05 _ _ hb),rfl,tl,r.2.1,R,rfl,⟨ts,e05 _ _ hts,Paired.mapP hp fun _ _ z=>z.mono e05⟩,by omega,fun l H6 e6 h6 hl6=>?_⟩
     refine⟨l,_,rfl,.inl (SqL.of hl6),?_,e6⟩
     unfold eM
     rw[if_neg g,List.length_map]
     rfl
    ·have g:r.2.1=("h":Str):=by
      by_cases c:r.2.1=("h":Str)
      ·exact c
      ·exact absurd (show (!decide (V.str r.2.1=V.str "h"))=true by rw[decide_eq_false (fun z=>c (by injection z))];rfl) g
     refine⟨?_,Same.refl _⟩
     unfold eM
     rw[if_pos g]
     rfl
  ·rintro σ H3 ⟨⟨o5,o6,o7,o8,rfl⟩,e3,rows,G3,hk3⟩
   rw[hl,List.take_length]at hk3
   exact⟨_,rfl,q d H3 rows e3 hd G3 hk3⟩
end
end K42
namespace K42
open PySem L2
def pf (ord:List Str)(R:List LT)(i j:Nat)(r:LT):Prop:=(∃ u,u<i∧ord[u]?=some r.2.1)∨(ord[i]?=some r.2.1∧r∈R.take j)
def mi (p:Int)(many:Nat)(rows:List aK)(fo:Option (List Int))(R:List LT)(L:Int→List Int)(r:LT):List Int:=if kf fo r.1 then List.replicate many 0 else if r.2.1="h" then bp rows r.1 else fk p many L (List.replicate many 0) (bp rows r.1) (aG R r.2.1)
theorem jU {p:Int}{many:Nat}{L L':Int→List Int}:∀ {acc ms ts:List Int},(∀ t∈ts,L t=L' t)→fk p many L acc ms ts=fk p many L' acc ms ts
 | acc,[],ts,_=>by cases ts <;> rfl
 | acc,_::_,[],_=>rfl
 | acc,m::ms,t::ts,h=>by
  show fk p many L (i6 p many acc m (L t)) ms ts=fk p many L' (i6 p many acc m (L' t)) ms ts
  rw[h t (by simp),jU fun u hu=>h u (by simp[hu])]
theorem nZ {p:Int}{many:Nat}{L:Int→List Int} (hp:0<p):∀ {acc ms ts:List Int},InF p acc→InF p (fk p many L acc ms ts)
 | acc,[],ts,h=>by
  have:fk p many L acc [] ts=acc:=by cases ts <;> rfl
  rw[this];exact h
 | acc,_::_,[],h=>h
 | acc,m::ms,t::ts,_=>nZ (L:=L) hp (acc:=i6 p many acc m (L t)) (ms:=ms) (ts:=ts) fun z hz=>by
  unfold i6 at hz
  obtain⟨k,_,rfl⟩:=List.mem_map.mp hz
  exact⟨Int.emod_nonneg _ (by omega),Int.emod_lt_of_pos _ hp⟩
theorem kU {rs:List aK}(x:aK){k:Int}(h:k∈rs.map (·.1)):bp (rs++[x]) k=bp rs k:=by
 unfold bp bA
 rw[List.find?_append]
 cases hf:rs.find? (fun r=>decide (r.1=k)) with
 | some y=>rfl
 | none=>
  obtain⟨y,hy,e⟩:=List.mem_map.mp h
  exact absurd (decide_eq_true e) (List.find?_eq_none.mp hf y hy)
theorem rR {rs:List aK}{k:Int}{a:Addr}{ns:List Int} (h:¬ k∈rs.map (·.1)):bp (rs++[(k,a,ns)]) k=ns:=by
 have hn:=kT h
 unfold bp
 unfold bA at hn ⊢
 rw[List.find?_append,hn]
 show ((List.find? (fun r:aK=>decide (r.1=k)) [(k,a,ns)]).map (·.2.2)).getD []=ns
 rw[List.find?_cons,show decide ((k,a,ns).1=k)=true from decide_eq_true rfl]
 rfl
structure RI (p : Int) (many : Nat) (rows : List aK) (fo : Option (List Int)) (R : List LT) (ord : List Str) (i j : Nat) (rs : List aK) : Prop where
  keys : ∀ k, k ∈ rs.map (·.1) ↔ ∃ r ∈ R, pf ord R i j r ∧ r.1 = k
  nd : (rs.map (·.1)).Nodup
  eq : ∀ r ∈ R, pf ord R i j r → bp rs r.1 = mi p many rows fo R (bp rs) r
  len : ∀ y ∈ rs, y.2.2.length = many
  fit : ∀ y ∈ rs, InF p y.2.2
section
variable {p : Int}{many : Nat}{rows : List aK}{fo : Option (List Int)}{R : List LT}{ord : List Str}{S : NS}{i j : Nat}{rs : List aK}
theorem RI.start:RI p many rows fo R ord 0 0 [] where
 keys:=fun k=>⟨fun h=>(List.not_mem_nil h).elim,fun⟨r,_,d,_⟩=>by
  rcases d with⟨u,hu,_⟩|⟨_,h⟩
  ·omega
  ·rw[List.take_zero]at h;exact (List.not_mem_nil h).elim⟩
 nd:=List.nodup_nil
 eq:=fun r _ d=>by
  rcases d with⟨u,hu,_⟩|⟨_,h⟩
  ·omega
  ·rw[List.take_zero]at h;exact (List.not_mem_nil h).elim
 len:=fun y h=>(List.not_mem_nil h).elim
 fit:=fun y h=>(List.not_mem_nil h).elim
theorem RI.same {i' j':Nat}(h:RI p many rows fo R ord i j rs)(e:∀ r∈R,pf ord R i j r ↔ pf ord R i' j' r):RI p many rows fo R ord i' j' rs where
 keys:=fun k=>(h.keys k).trans ⟨fun⟨r,a,b,c⟩=>⟨r,a,(e r a).mp b,c⟩,fun⟨r,a,b,c⟩=>⟨r,a,(e r a).mpr b,c⟩⟩
 nd:=h.nd
 eq:=fun r hr d=>h.eq r hr ((e r hr).mpr d)
 len:=h.len
 fit:=h.fit
theorem RI.next (h:RI p many rows fo R ord i R.length rs):RI p many rows fo R ord (i+1) 0 rs:=h.same fun r hr=>by
 constructor
 ·rintro (⟨u,hu,e⟩|⟨e,_⟩)
  ·exact .inl ⟨u,by omega,e⟩
  ·exact .inl ⟨i,by omega,e⟩
 ·rintro (⟨u,hu,e⟩|⟨_,z⟩)
  ·by_cases c:u<i
   ·exact .inl ⟨u,c,e⟩
   ·have:u=i:=by omega
    exact .inr ⟨this▸e,by rw[List.take_length];exact hr⟩
  ·rw[List.take_zero]at z;exact (List.not_mem_nil z).elim
theorem RI.skip (h:RI p many rows fo R ord i j rs){r:LT}(hr:R[j]?=some r)(ne:ord[i]?≠some r.2.1):RI p many rows fo R ord i (j+1) rs:=h.same fun r' hr'=>by
 have tk:R.take (j+1)=R.take j++[r]:=by rw[List.take_add_one,hr];rfl
 constructor
 ·rintro (z|⟨e,z⟩)
  ·exact .inl z
  ·exact .inr ⟨e,by rw[tk];exact List.mem_append_left _ z⟩
 ·rintro (z|⟨e,z⟩)
  ·exact .inl z
  ·rw[tk]at z
   rcases List.mem_append.mp z with z|z
   ·exact .inr ⟨e,z⟩
   ·rw[List.mem_singleton.mp z]at e;exact absurd e ne
theorem lB (O:LN S ord R){r:LT}(hr:r∈R){n:Nat}(hn:ord[n]?=some r.2.1)(hi:n≤i):∀ k∈aG R r.2.1,∃ r'∈R,pf ord R i j r'∧r'.1=k:=fun k hk=>by
 unfold aG at hk
 obtain⟨r',hr',rfl⟩:=List.mem_map.mp hk
 obtain⟨hr',hx'⟩:=List.mem_filter.mp hr'
 have hx':r'.2.2=r.2.1:=of_decide_eq_true hx'
 obtain⟨u,v,uv,hu,hv⟩:=O.ok r' hr'
 rw[hx']at hv
 have:=b6 O.nd hv hn
 exact⟨r',hr',.inl ⟨u,by omega,hu⟩,rfl⟩
theorem RI.fresh (O:LN S ord R)(h:RI p many rows fo R ord i j rs){r:LT}(hr:R[j]?=some r)(hi:ord[i]?=some r.2.1):¬ r.1∈rs.map (·.1):=fun z=>by
 obtain⟨r',hr',d,e⟩:=(h.keys _).mp z
 have nr:(R.map (·.1)).Nodup:=O.asc.imp fun h=>Int.ne_of_lt h
 obtain⟨j',hj',ej'⟩:=List.getElem_of_mem hr'
 have jj:j'=j:=b6 nr (x:=r.1) (by rw[List.getElem?_map,List.getElem?_eq_getElem hj',ej'];exact congrArg some e) (by rw[List.getElem?_map,hr];rfl)
 subst jj
 have er:r'=r:=by
  rw[List.getElem?_eq_getElem hj',ej']at hr
  exact Option.some.inj hr
 subst er
 rcases d with⟨u,hu,eu⟩|⟨_,z⟩
 ·have:=b6 O.nd eu hi
  omega
 ·obtain⟨k,hk,ek⟩:=List.mem_take_iff_getElem.mp z
  have:k=j':=b6 nr (x:=r'.1) (by rw[List.getElem?_map,List.getElem?_eq_getElem (by omega),ek];rfl) (by rw[List.getElem?_map,hr];rfl)
  omega
theorem RI.add (O:LN S ord R)(h:RI p many rows fo R ord i j rs){r:LT}(hr:R[j]?=some r)(hi:ord[i]?=some r.2.1)(a:Addr){ns:List Int}(hns:ns=mi p many rows fo R (bp rs) r)(hl:ns.length=many)(hf:InF p ns):RI p many rows fo R ord i (j+1) (rs++[(r.1,a,ns)]):=by
 have tk:R.take (j+1)=R.take j++[r]:=by rw[List.take_add_one,hr];rfl
 have rm:r∈R:=List.mem_of_getElem? hr
 have fr:=h.fresh O hr hi
 have dn:∀ r',pf ord R i (j+1) r' ↔ pf ord R i j r'∨r'=r:=fun r'=>by
  constructor
  ·rintro (z|⟨e,z⟩)
   ·exact .inl (.inl z)
   ·rw[tk]at z
    rcases List.mem_append.mp z with z|z
    ·exact .inl (.inr ⟨e,z⟩)
    ·exact .inr (List.mem_singleton.mp z)
  ·rintro ((z|⟨e,z⟩)|z)
   ·exact .inl z
   ·exact .inr ⟨e,by rw[tk];exact List.mem_append_left _ z⟩
   ·subst z
    exact .inr ⟨hi,by rw[tk];simp⟩
 have old:∀ r'∈R,∀ n,ord[n]?=some r'.2.1→n≤i→mi p many rows fo R (bp (rs++[(r.1,a,ns)])) r'=mi p many rows fo R (bp rs) r':=fun r' hr' n hn ni=>by
  unfold mi
  rw[jU fun t ht=>kU _ ((h.keys t).mpr (lB O hr' hn ni t ht))]
 refine⟨fun k=>?_,?_,fun r' hr' d=>?_,fun y hy=>?_,fun y hy=>?_⟩
 ·rw[List.map_append,List.mem_append,h.keys k]
  constructor
  ·rintro (⟨r',x,y,z⟩|z)
   ·exact⟨r',x,(dn r').mpr (.inl y),z⟩
   ·have z:k=r.1:=by simpa using z
    exact⟨r,rm,(dn r).mpr (.inr rfl),z.symm⟩
  ·rintro⟨r',x,y,z⟩
   rcases (dn r').mp y with y|y
   ·exact .inl ⟨r',x,y,z⟩
   ·subst y
    exact .inr (by simp[z])
 ·rw[List.map_append,List.nodup_append]
  exact⟨h.nd,by simp,fun x hx y hy z=>fr (by have:y=r.1:=(by simpa using hy);rw[← this,← z];exact hx)⟩
 ·rcases (dn r').mp d with d|d
  ·have hk:r'.1∈rs.map (·.1):=(h.keys _).mpr ⟨r',hr',d,rfl⟩
   rw[kU _ hk,h.eq r' hr' d]
   rcases d with⟨u,hu,e⟩|⟨e,_⟩
   ·exact (old r' hr' u e (by omega)).symm
   ·exact (old r' hr' i e (Nat.le_refl _)).symm
  ·subst d
   rw[rR fr,old r' hr' i hi (Nat.le_refl _)]
   exact hns
 ·rcases List.mem_append.mp hy with z|z
  ·exact h.len y z
  ·rw[List.mem_singleton.mp z];exact hl
 ·rcases List.mem_append.mp hy with z|z
  ·exact h.fit y z
  ·rw[List.mem_singleton.mp z];exact hf
theorem RI.law (O:LN S ord R)(h:RI p many rows fo R ord ord.length 0 rs):LawRows p many rows fo R (bp rs)∧∀ k,k∈rs.map (·.1) ↔ k∈R.map (·.1):=by
 have all:∀ r∈R,pf ord R ord.length 0 r:=fun r hr=>by
  obtain⟨u,_,_,hu,_⟩:=O.ok r hr
  exact .inl ⟨u,(List.getElem?_eq_some_iff.mp hu).1,hu⟩
 have at_:∀ r∈R,∃ y∈rs,bp rs r.1=y.2.2:=fun r hr=>by
  obtain⟨y,hy,e⟩:=List.mem_map.mp ((h.keys r.1).mpr ⟨r,hr,all r hr,rfl⟩)
  refine⟨y,hy,?_⟩
  unfold bp
  rw[← e,bo h.nd y hy]
  rfl
 refine⟨⟨fun r hr=>h.eq r hr (all r hr),fun r hr=>?_,fun r hr=>?_⟩,fun k=>(h.keys k).trans ⟨fun⟨r,a,_,c⟩=>List.mem_map.mpr ⟨r,a,c⟩,fun z=>?_⟩⟩
 ·obtain⟨y,hy,e⟩:=at_ r hr
  rw[e];exact h.len y hy
 ·obtain⟨y,hy,e⟩:=at_ r hr
  rw[e];exact h.fit y hy
 ·obtain⟨r,a,c⟩:=List.mem_map.mp z
  exact⟨r,a,all r a,c⟩
theorem LawRows.none {L:Int→List Int}(h:LawRows p many rows (some []) R L):LawRows p many rows none R L where
 eq:=fun r hr=>by
  have:=h.eq r hr
  rw[show kf (some []) r.1=false from rfl]at this
  exact this
 len:=h.len
 fit:=h.fit
end
end K42
namespace K42
open PySem L2
open PyProof.Rows (boot_list boot_int boot_bool boot_tuple boot_str boot_dict boot_all boot_sorted)
structure TxtR (mg : Str → Option Value) : Prop where
  n_zip : mg "zip" = none
  n_range : mg "range" = none
  n_list : mg "list" = none
theorem lj {α:Type}[DecidableEq α]:∀ {xs ys:List α},xs.Nodup→(∀ x∈xs,x∈ys)→xs.length≤ys.length
 | [],_,_,_=>Nat.zero_le _
 | x::xs,ys,nd,h=>by
  rw[List.nodup_cons]at nd
  have hx:=h x (by simp)
  have:=lj (xs:=xs) (ys:=ys.erase x) nd.2 fun z hz=>(List.mem_erase_of_ne (fun e:z=x=>nd.1 (by rw[← e];exact hz))).mpr (h z (by simp[hz]))
  rw[List.length_erase_of_mem hx]at this
  have:0<ys.length:=List.length_pos_of_mem hx
  rw[List.length_cons]
  omega
section
variable {P : Program}{w : World}{K : PySem.W.Frag}{mg : Str → Option Value}{base : Heap}
def jx:Sp:=fun vs H Q _=>∃ (tl lo d lf:Addr)(S:NS)(ord:List Str)(R:List LT)(rows:List aK)(many:Nat)(p:Int)(fs:List Int),vs=[.ref tl,.ref lo,.ref d,.int (many:Int),.int p,.ref lf]∧TiesS H tl R∧H lo=some (.lst (ord.map V.str))∧LN S ord R∧PlanAt H d rows∧Paired (lR p many R) rows R∧0<p∧p≤1000000∧many≤14∧H lf=some (.lst (fs.map V.int))∧fs.length≤1000∧
 ∀ e H' rs,Same H H'→H e=none→PlanAt H' e rs→RI p many rows (some fs) R ord ord.length 0 rs→Q (.ref e) H'
abbrev m7:Stmt:=top 52
theorem sc_Lrows:am ["_law_ties","_law_order","_law_plan_here","_law_many","_law_prime","_law_fallen","_law_rows_here","_law_name","_law_number","_law_one","_law_other","_law_row","_law_multiplier","_law_tie"] ["_law_ties","_law_order","_law_plan_here","_law_many","_law_prime","_law_fallen"] (ah m7):=⟨rfl,rfl,rfl,by decide +kernel,rfl,by decide +kernel,by decide +kernel⟩
theorem tP {f:Addr}{fd:FuncData} (F:Fun K "_law_rows" "_law_rows" m7 f fd) (T:TxtR mg) (D_Linto:Df P w K mg base 1 "_law_into" ["_law_ties","_law_name"] eX):FnOk P w K mg base CX0 2 f fd ["_law_ties","_law_order","_law_plan_here","_law_many","_law_prime","_law_fallen"] jx:=by
 refine F.ok sc_Lrows (fun vs H Q E h=>?_) (fun cdv A outer s H vs Q E hr h=>?_)
 ·obtain⟨tl,lo,d,lf,S,ord,R,rows,many,p,fs,rfl,_⟩:=h
  rfl
 ·obtain⟨tl,lo,d,lf,S,ord,R,rows,many,p,fs,rfl,⟨ts,hts,hp⟩,hlo,O,pl,pr,hp0,hp1,hm,hlf,hfz,q⟩:=h
  have ND:=sc_Lrows.nd
  have hl:=Paired.length hp
  refine⟨_,(ad (au (i:=6) ND rfl (by first|exact Or.inl rfl|exact Or.inr rfl) dM)
 (ad (bt PassesOwn.never rfl (cS K (pv 1)) (ai (i:=7) ND rfl (by first|exact Or.inl rfl|exact Or.inr rfl))
  (af (bt PassesOwn.never rfl (cS K (pv 0)) (gE K (n:=3) rfl (ak (ai (i:=8) ND rfl (by first|exact Or.inl rfl|exact Or.inr rfl)) (ak (ai (i:=9) ND rfl (by first|exact Or.inl rfl|exact Or.inr rfl)) (ak (ai (i:=10) ND rfl (by first|exact Or.inl rfl|exact Or.inr rfl)) bh))))
  (af (cf (PW.pt (fh (av cJ (pv 9) (pv 7) (aE _)) (ef (av (inK K) (pv 8) (pv 5) (by with_unfolding_all rfl)))))
  (af (cw (b7 hr) (pv 6) (pv 8) (ax tK (bi (a8 aj ae)) (pv 3)) rfl))
  (af (cf (PW.pt (fh (av cJ (pv 9) (pv 7) (aE _)) (ef (av cJ (pv 7) bu (aE _)))))
  (af (cw (b7 hr) (pv 6) (pv 8) (br (qU K) rfl T.n_list boot_list (a8 (bP (b7 hr) (pv 2) (pv 8) (fun _ _=>rfl)) ae)) rfl))
  (af (cf (av cJ (pv 9) (pv 7) (aE _))
  (ad (au (i:=11) ND rfl (by first|exact Or.inl rfl|exact Or.inr rfl) (ax tK (bi (a8 aj ae)) (pv 3)))
 (ad (bt PassesOwn.never rfl (pizK K rfl T.n_zip (a8 (bP (b7 hr) (pv 2) (pv 8) (fun _ _=>rfl)) (a8 (aA D_Linto (hr.mono (by decide)) rfl (a8 (pv 0) (a8 (pv 7) ae))) ae))) (gE K (n:=2) rfl (ak (ai (i:=12) ND rfl (by first|exact Or.inl rfl|exact Or.inr rfl)) (ak (ai (i:=13) ND rfl (by first|exact Or.inl rfl|exact Or.inr rfl)) bh)))
  (af (au (i:=11) ND rfl (by first|exact Or.inl rfl|exact Or.inr rfl) (aO rfl (ao (nT:=1) (js:=[4,6,11,12,13]) (N':=["_law_k","_law_prime","_law_rows_here","_law_row","_law_multiplier","_law_tie"]) rfl rfl (by kernel_rfl)) (bJ rfl T.n_range (a8 (pv 3) ae))
  (fun _ _ _ _ _=>(ai (i:=0) (show List.Nodup (["_law_k","_law_prime","_law_rows_here","_law_row","_law_multiplier","_law_tie"]:List Str) by decide +kernel) rfl (by first|exact Or.inl rfl|exact Or.inr rfl)))
  (fun _ _ _ _ _=>aT)
  (fun _ _ _ _ _=>(ax aS (ax bS (aV (cg K) (pv 3) (pv 0) (fun _ _=>rfl)) (ax iC (pv 4) (aV (cg K) (bP (b7 hr) (pv 2) (pv 5) (fun _ _=>rfl)) (pv 0) (fun _ _=>rfl)))) (pv 1)))))))
 (af (cw (b7 hr) (pv 6) (pv 8) (pv 11) rfl))))
  aH)))))))))
 (af (ay (pv 6))))),?_⟩
  intro e0 he0
  have s0:Same H (upd H e0 (.dK [])):=az (Same.refl _) he0
  have nlo:lo≠e0:=ag hlo he0
  have zer:∀ n:Nat,(List.replicate n [V.int 0]).flatten=(List.replicate n (0:Int)).map V.int:=fun n=>by
   induction n with
   | zero=>rfl
   | succ n ih=>rw[List.replicate_succ,List.flatten_cons,ih,List.replicate_succ];rfl
  have zfit:InF p (List.replicate many 0):=fun z hz=>by rw[(List.mem_replicate.mp hz).2];omega
  have rnd:(R.map (·.1)).Nodup:=O.asc.imp fun h=>Int.ne_of_lt h
  have pkeys:rows.map (·.1)=R.map (·.1):=by
   clear q
   have:∀ {ys:List aK}{rr:List LT},Paired (lR p many R) ys rr→ys.map (·.1)=rr.map (·.1):=fun {ys rr} h=>by
    induction h with
    | nil=>rfl
    | cons a _ ih=>rw[List.map_cons,List.map_cons,a.1,ih]
   exact this pr
  have prow:∀ (j:Nat) r,R[j]?=some r→∃ y∈rows,y.1=r.1∧bA rows r.1=some y∧InF p y.2.2∧y.2.2.length=eM R many r.2.1:=fun j r hj=>by
   have hjl:j<rows.length:=by rw[Paired.length pr];exact (List.getElem?_eq_some_iff.mp hj).1
   obtain⟨r',er',h1,h2,h3⟩:=Paired.at pr (List.getElem?_eq_getElem hjl)
   rw[hj]at er'
   cases er'
   have ym:=List.getElem_mem hjl
   exact⟨_,ym,h1,by rw[← h1];exact bo (pkeys▸rnd) _ ym,h2,h3⟩
  refine⟨_,rfl,lo,rfl,⟨_,SqL.of (s0 _ _ hlo)⟩,bE (K:=K) (xs:=ord.map V.str) (fun i σ G=>(∃ o7 o8 o9 o10 o11 o12 o13,σ=[some (.ref tl),some (.ref lo),some (.ref d),some (.int (many:Int)),some (.int p),some (.ref lf),some (.ref e0),o7,o8,o9,o10,o11,o12,o13])∧Same H G∧∃ rs,PlanAt G e0 rs∧RI p many rows (some fs) R ord i 0 rs)
   ⟨⟨_,_,_,_,_,_,_,rfl⟩,s0,[],⟨a9,fun r h=>(List.not_mem_nil h).elim⟩,RI.start⟩ (fun i σ G _ h=>SqL.of (h.2.1 _ _ hlo)) ?_ ?_⟩
  ·rintro i v σ G ev ⟨⟨o7,o8,o9,o10,o11,o12,o13,rfl⟩,eG,rs,PG,IG⟩
   obtain⟨x,ex,rfl⟩:=Option.map_eq_some_iff.mp (List.getElem?_map▸ev)
   refine⟨_,rfl,tl,rfl,⟨_,SqL.of (eG _ _ hts)⟩,bE (K:=K) (xs:=ts) (fun j σ G=>(∃ o8 o9 o10 o11 o12 o13,σ=[some (.ref tl),some (.ref lo),some (.ref d),some (.int (many:Int)),some (.int p),some (.ref lf),some (.ref e0),some (.str x),o8,o9,o10,o11,o12,o13])∧Same H G∧∃ rs,PlanAt G e0 rs∧RI p many rows (some fs) R ord i j rs)
    ⟨⟨_,_,_,_,_,_,rfl⟩,eG,rs,PG,IG⟩ (fun j σ G _ h=>SqL.of (h.2.1 _ _ hts)) ?_ ?_⟩
   ·clear IG PG eG rs
    rintro j v σ G1 ev ⟨⟨o8,o9,o10,o11,o12,o13,rfl⟩,eG,rs,PG,IG⟩
    obtain⟨r,er,b,rfl,hb⟩:=Paired.at hp ev
    have jl:j<R.length:=(List.getElem?_eq_some_iff.mp er).1
    have rl:=O.rlen
    refine⟨b,_,rfl,SqT.of (eG _ _ hb),rfl,_,_,rfl,_,_,rfl,_,[],rfl,rfl,?_⟩
    have rsz:rs.length≤40:=by
     have hs:∀ k∈rs.map (·.1),k∈R.map (·.1):=fun k hk=>by
      obtain⟨r',a,_,c⟩:=(IG.keys k).mp hk
      exact List.mem_map.mpr ⟨r',a,c⟩
     have:=lj IG.nd hs
     rw[List.length_map,List.length_map]at this
     omega
    have small:(aU rs).length<2 ^ 24:=by unfold aU;rw[List.length_map];omega
    have fin:r.2.1=x→∀ (ns:List Int)(a:Addr)(G':Hp),Same G1 G'→G' a=some (.lst (ns.map V.int))→ns=mi p many rows (some fs) R (bp rs) r→ns.length=many→InF p ns→∀ o8 o9 o10 o11 o12 o13,
      (∃ o8' o9' o10' o11' o12' o13',([some (.ref tl),some (.ref lo),some (.ref d),some (.int (many:Int)),some (.int p),some (.ref lf),some (.ref e0),some (.str x),o8,o9,o10,o11,o12,o13]:St)=[some (.ref tl),some (.ref lo),some (.ref d),some (.int (many:Int)),some (.int p),some (.ref lf),some (.ref e0),some (.str x),o8',o9',o10',o11',o12',o13'])∧Same H (upd G' e0 (.dK (cz (aU rs) (Sum.inl r.1) (.ref a))))∧∃ rs',PlanAt (upd G' e0 (.dK (cz (aU rs) (Sum.inl r.1) (.ref a)))) e0 rs'∧RI p many rows (some fs) R ord i (j+1) rs':=fun hx ns a G' e' ha hns hl' hf' o8 o9 o10 o11 o12 o13=>by
     subst hx
     exact⟨⟨_,_,_,_,_,_,rfl⟩,aw (eG.trans e') he0,_,(PG.mono e').put (IG.fresh O er ex) ha,IG.add O er ex a hns hl' hf'⟩
    obtain⟨y,ym,yk,yi,yf,yl⟩:=prow j r er
    have vy:=cU rows r.1
    rw[yi,Option.map_some]at vy
    have yr:bp rows r.1=y.2.2:=by unfold bp;rw[yi];rfl
    refine⟨_,fun σ' H' h=>h,?_⟩
    refine⟨_,rfl,_,rfl,rfl,_,rfl,?_⟩
    by_cases c:r.2.1=x
    case neg=>
     rw[decide_eq_false (show ¬ V.str r.2.1=V.str x from fun z=>c (by injection z))]
     refine bv ⟨_,fun σ' H' h=>h,⟨_,rfl,_,rfl,rfl,_,rfl,?_⟩⟩
     rw[decide_eq_false (show ¬ V.str r.2.1=V.str x from fun z=>c (by injection z))]
     refine bv ⟨_,fun σ' H' h=>h,⟨_,rfl,_,rfl,rfl,_,rfl,?_⟩⟩
     rw[decide_eq_false (show ¬ V.str r.2.1=V.str x from fun z=>c (by injection z))]
     exact bv ⟨⟨_,_,_,_,_,_,rfl⟩,eG,rs,PG,IG.skip er (by rw[ex];exact fun z=>c (Option.some.inj z).symm)⟩
    rw[decide_eq_true (show V.str r.2.1=V.str x by rw[c])]
    refine ci ⟨_,rfl,_,rfl,lf,_,rfl,.inl (SqL.of (eG _ _ hlf)),rfl,lF fs,_,rfl,?_⟩
    rw[if_neg (by decide),k8]
    cases hd:decide (r.1∈fs) with
    | true=>
     refine ci ⟨(by show 1≤sizeLine;decide),fun l1 G2 e2 h2 hl1=>⟨_,rfl,l1,_,_,rfl,rfl,hl1,by omega,by omega,?_,fun a ha=>⟨_,rfl,_,rfl,e0,_,rfl,DPut.k (k:=Sum.inl r.1) (show _=some (HO.dK (aU rs)) from ?_) small,fin c (List.replicate many 0) a _ (az e2 ha) (by rw[a9,Int.toNat_natCast,zer]) ?_ (by simp) zfit _ _ _ _ _ _⟩⟩⟩
     ·rw[Int.toNat_natCast]
      show 1 * many≤2 ^ 24
      omega
     ·rw[aa (ag (e2 _ _ PG.dict) ha)]
      exact e2 _ _ PG.dict
     ·unfold mi
      rw[show kf (some fs) r.1=true from hd,if_pos rfl]
    | false=>
     refine bv ⟨_,fun σ' H' h=>h,⟨_,rfl,_,rfl,rfl,_,rfl,?_⟩⟩
     rw[decide_eq_true (show V.str r.2.1=V.str x by rw[c])]
     refine ci ⟨_,rfl,rfl,_,rfl,?_⟩
     by_cases c2:x=("h":Str)
     ·rw[decide_eq_true (show V.str x=V.str "h" by rw[c2])]
      refine ci ⟨_,rfl,_,rfl,d,_,rfl,vy▸DGet.k (k:=Sum.inl r.1) (eG _ _ pl.dict),y.2.1,_,rfl,.inl (SqL.of (eG _ _ (pl.row y ym))),fun a G2 e2 h2 ha=>⟨_,rfl,_,rfl,e0,_,rfl,DPut.k (k:=Sum.inl r.1) (e2 _ _ PG.dict) small,fin c y.2.2 a G2 e2 ha ?_ ?_ yf _ _ _ _ _ _⟩⟩
      ·unfold mi
       rw[show kf (some fs) r.1=false from hd,if_neg (fun z=>nomatch z),if_pos (c.trans c2),yr]
      ·rw[yl]
       unfold eM
       rw[if_pos (c.trans c2)]
     ·rw[decide_eq_false (show ¬ V.str x=V.str "h" from fun z=>c2 (by injection z))]
      refine bv ⟨_,fun σ' H' h=>h,⟨_,rfl,_,rfl,rfl,_,rfl,?_⟩⟩
      rw[decide_eq_true (show V.str r.2.1=V.str x by rw[c])]
      refine ci ⟨(by show 1≤sizeLine;decide),fun l1 G2 e2 h2 hl1=>⟨_,rfl,l1,_,_,rfl,rfl,hl1,by omega,by omega,?_,fun a ha=>?_⟩⟩
      ·rw[Int.toNat_natCast]
       show 1 * many≤2 ^ 24
       omega
      have ea:Same G1 (upd G2 a (.lst (List.replicate ((many:Nat):Int).toNat [V.int 0]).flatten)):=az e2 ha
      have haa:(upd G2 a (.lst (List.replicate ((many:Nat):Int).toNat [V.int 0]).flatten)) a=some (.lst ((List.replicate many (0:Int)).map V.int)):=by rw[a9,Int.toNat_natCast,zer]
      generalize upd G2 a (.lst (List.replicate ((many:Nat):Int).toNat [V.int 0]).flatten)=G3 at ea haa
      refine⟨_,rfl,_,rfl,d,_,rfl,vy▸DGet.k (k:=Sum.inl r.1) (ea _ _ (eG _ _ pl.dict)),_,rfl,_,rfl,tl,x,R,rfl,⟨ts,ea _ _ (eG _ _ hts),Paired.mapP hp fun _ _ z=>(z.mono eG).mono ea⟩,by omega,fun li G4 e4 h4 hli=>?_⟩
      have e34:=ea.trans e4
      have P4:=PG.mono e34
      have ha4:=e4 _ _ haa
      have hrow4:G4 y.2.1=some (.lst (y.2.2.map V.int)):=e34 _ _ (eG _ _ (pl.row y ym))
      have dn:=lB (i:=i) (j:=j) O (List.mem_of_getElem? er) (by rw[c];exact ex) (Nat.le_refl _)
      rw[c]at dn
      refine⟨y.2.1,li,rfl,⟨_,SqL.of hrow4⟩,⟨_,SqL.of hli⟩,vt (K:=K) (fun t σ G=>∃ (a:Addr)(acc:List Int),(∃ o12 o13,σ=[some (.ref tl),some (.ref lo),some (.ref d),some (.int (many:Int)),some (.int p),some (.ref lf),some (.ref e0),some (.str x),some (.int r.1),some (.str r.2.1),some (.str r.2.2),some (.ref a),o12,o13])∧Same G4 G∧G a=some (.lst (acc.map V.int))∧acc.length=many∧fk p many (bp rs) (List.replicate many 0) y.2.2 (aG R x)=fk p many (bp rs) acc (y.2.2.drop t) ((aG R x).drop t))
       ⟨a,_,⟨_,_,rfl⟩,Same.refl _,ha4,by simp,by rw[List.drop_zero,List.drop_zero]⟩ (fun t σ G _ ⟨_,_,_,e,_⟩=>⟨SqL.of (e _ _ hrow4),SqL.of (e _ _ hli)⟩) ?_ ?_⟩
      ·rintro t u v T' σ G5 eu ev' ⟨a5,acc,⟨o12',o13',rfl⟩,e5,ha5,al,em⟩ hT
       obtain⟨m,hm',rfl⟩:=gH eu
       obtain⟨k,hk',rfl⟩:=gH ev'
       obtain⟨y2,y2m,y2k⟩:=List.mem_map.mp ((IG.keys k).mpr (dn k (List.mem_of_getElem? hk')))
       have y2i:bA rs k=some y2:=by rw[← y2k];exact bo IG.nd y2 y2m
       have v2:=cU rs k
       rw[y2i,Option.map_some]at v2
       have rk:bp rs k=y2.2.2:=by unfold bp;rw[y2i];rfl
       have y2l:=IG.len y2 y2m
       have mf:=yf m (List.mem_of_getElem? hm')
       refine⟨T',_,rfl,SqT.of a9,rfl,_,_,rfl,_,[],rfl,rfl,?_⟩
       have eT:Same G5 (upd G5 T' (.tup [.int m,.int k])):=az (Same.refl _) hT
       generalize upd G5 T' (.tup [.int m,.int k])=G6 at eT
       have e46:=e5.trans eT
       have P6:=P4.mono e46
       refine⟨_,rfl,_,rfl,by omega,by omega,?_⟩
       rw[Int.toNat_natCast]
       refine dk (n:=many) (fun z=>(acc.getD z 0+m * (bp rs k).getD z 0) % p) (by omega) (fun z G7 hz e7=>?_) (fun a7 G7 h7 e7 ha7=>?_)
       ·have z1:z<acc.length:=by omega
        have z2:z<y2.2.2.length:=by omega
        refine⟨_,rfl,_,rfl,a5,_,_,.int acc[z],rfl,rfl,SqL.of (e7 _ _ (eT _ _ ha5)),?_,_,rfl,_,rfl,_,rfl,e0,_,rfl,v2▸DGet.k (k:=Sum.inl k) (e7 _ _ P6.dict),_,rfl,y2.2.1,_,_,.int y2.2.2[z],rfl,rfl,SqL.of (e7 _ _ (P6.row y2 y2m)),?_,_,_,rfl,rfl,.inl ⟨by omega,by omega⟩,_,_,rfl,rfl,_,rfl,_,_,rfl,rfl,hp0,?_,Same.refl _⟩
        ·rw[Int.zero_add]
         exact bc (by rw[List.getElem?_map,List.getElem?_eq_getElem z1];rfl)
        ·rw[Int.zero_add]
         exact bc (by rw[List.getElem?_map,List.getElem?_eq_getElem z2];rfl)
        ·rw[rk,b8 (List.getElem?_eq_getElem z1),b8 (List.getElem?_eq_getElem z2)]
       ·refine⟨a7,_,⟨_,_,rfl⟩,e46.trans e7,ha7,by simp,?_⟩
        rw[em,List.drop_eq_getElem_cons (List.getElem?_eq_some_iff.mp hm').1,List.drop_eq_getElem_cons (List.getElem?_eq_some_iff.mp hk').1,(List.getElem?_eq_some_iff.mp hm').2,(List.getElem?_eq_some_iff.mp hk').2]
        rfl
      ·rintro σ G5 ⟨a5,acc,⟨o12',o13',rfl⟩,e5,ha5,al,em⟩
       have em':fk p many (bp rs) (List.replicate many 0) y.2.2 (aG R x)=acc:=by
        rw[em]
        rw[List.length_map,List.length_map]
        by_cases c3:y.2.2.length≤(aG R x).length
        ·rw[Nat.min_eq_left c3,List.drop_length]
         cases (aG R x).drop y.2.2.length <;> rfl
        ·rw[Nat.min_eq_right (by omega),List.drop_length]
         cases y.2.2.drop (aG R x).length <;> rfl
       refine⟨_,rfl,_,rfl,_,rfl,e0,_,rfl,DPut.k (k:=Sum.inl r.1) (e5 _ _ P4.dict) small,fin c acc a5 G5 (e34.trans e5) ha5 ?_ al ?_ _ _ _ _ _ _⟩
       ·unfold mi
        rw[show kf (some fs) r.1=false from hd,if_neg (fun z=>nomatch z),if_neg (by rw[c];exact c2),yr,c]
        exact em'.symm
       ·rw[← em']
        exact nZ hp0 zfit
   ·rintro σ G1 ⟨⟨o8,o9,o10,o11,o12,o13,rfl⟩,eG1,rs1,PG1,IG1⟩
    rw[hl]at IG1
    exact⟨⟨_,_,_,_,_,_,_,rfl⟩,eG1,rs1,PG1,IG1.next⟩
  ·rintro σ G ⟨⟨o7,o8,o9,o10,o11,o12,o13,rfl⟩,eG,rs,PG,IG⟩
   rw[List.length_map]at IG
   exact⟨_,rfl,q e0 G rs eG he0 PG IG⟩
end
end K42
namespace L2
open PySem PySem.Spec PyProof.Rows
theorem fldXK {X:Cx}(K:PySem.W.Frag){e:Expr}{f:Str}{pos:Pos}{ta:TE} (he:PE X e ta) (hb:attributeBase e f X.env (eval e X.env)=eval e X.env) (h:X.K=K:=by rfl):PE X (.Attribute e f pos) (tFldX K ta f):=h▸v0 he hb
end L2
namespace K42
open PySem L2
open PyProof.Rows (boot_list boot_int boot_bool boot_tuple boot_str boot_dict boot_all)
structure TxtE (K : PySem.W.Frag) (mg : Str → Option Value) (NP : Addr) : Prop where
  c_NoPost : mg "NoPost" = some (.ref NP)
  ea : vI K NP "name"
  em : PySem.W.exmOne K (.ref NP) (.ref NP) = some true
section
variable {P : Program}{w : World}{K : PySem.W.Frag}{mg : Str → Option Value}{base : Heap}
def eW (c:Cl):Sp:=fun vs H Q _=>∃ (n dp dt:Addr)(S:NS)(d:Addr)(p:Int)(rows:List aK)(many:Nat)(g:Str),vs=[.ref n,.ref d,.int (many:Int),.int p,.str g]∧CarOk c H n dp dt S d .non p rows none∧many≤1000∧¬ g∈S.lis∧∀ H',Same H H'→Q (.bl true) H'
abbrev gB:Stmt:=top 53
theorem sc_Lrefused:am ["_law_net_here","_law_plan_here","_law_many","_law_prime","_law_name","e"] ["_law_net_here","_law_plan_here","_law_many","_law_prime","_law_name"] (ah gB):=⟨rfl,rfl,rfl,by decide +kernel,rfl,by decide +kernel,by decide +kernel⟩
theorem nV {c:Cl}{NP:Addr}{f:Addr}{fd:FuncData} (F:Fun K "_law_refused" "_law_refused" gB f fd) (T:TxtE K mg NP) (D_heardd:qx P w K mg base 6 "heard" ["net","plan","many","prime","listener","fallen"] [.non] (eV c NP)):FnOk P w K mg base CX0 7 f fd ["_law_net_here","_law_plan_here","_law_many","_law_prime","_law_name"] (eW c):=by
 refine F.ok sc_Lrefused (fun vs H Q E h=>?_) (fun cdv A outer s H vs Q E hr h=>?_)
 ·obtain⟨n,dp,dt,S,d,p,rows,many,g,rfl,_⟩:=h
  rfl
 ·obtain⟨n,dp,dt,S,d,p,rows,many,g,rfl,O,hm,hx,q⟩:=h
  have ND:=sc_Lrefused.nd
  refine⟨_,(ad (ps_try (i:=5) ⟨rfl,rfl,rfl⟩ ND rfl rfl rfl T.c_NoPost
  (fun _ _=>(af (aF (kY on_try D_heardd (hr.mono (by decide)) rfl (a8 (pv 0) (a8 (pv 1) (a8 (pv 2) (a8 (pv 3) (a8 (pv 4) ae)))))))))
  (fun _ _=>(af (ay (mt cJ (fldXK K (pv 5) rfl) (pv 4) (aE _))))))
 (af (ay dh))),?_⟩
  refine⟨_,rfl,_,rfl,_,rfl,_,rfl,_,rfl,n,dp,dt,S,d,.non,p,rows,none,many,g,rfl,O,hm,fun _ dx H' e' hd'=>⟨T.em,fun ea hea=>?_⟩,fun z=>absurd z hx⟩
  have nd:dx≠ea:=ag hd' hea
  refine⟨_,rfl,ea,NP,dx,_,_,rfl,a9,by rw[aa nd];exact hd',T.ea,rfl,_,rfl,rfl,?_⟩
  rw[decide_eq_true rfl]
  exact q _ (az e' hea)
end
end K42
namespace K42
open PySem L2
theorem tV {x:Str}(h:bD x=true):x.length≤8:=by
 unfold bD at h
 rw[Bool.and_eq_true,Bool.and_eq_true]at h
 exact of_decide_eq_true h.1.2
theorem ui {X:Xc}{S:NS}{x:Str}{k:Kd} (h1:bD x=true) (h2:¬ x∈S.names) (h3:¬ (hrB k=false∧S.home.isSome=true)) (h4:k9 S k=false):due X S x k=none:=by
 unfold due
 rw[if_neg (by rw[h1];exact fun z=>nomatch z),if_neg h2,if_neg h3,if_neg (by rw[h4];exact fun z=>nomatch z)]
theorem tZ {ln:List Str}(nd:ln.Nodup){ts:List Tie}(h:∀ t∈ts,∃ u v:Nat,u<v∧ln[u]?=some t.2.1∧ln[v]?=some t.2.2.1){y x:Str}{v:Nat} (hy:ln[v]?=some y) (L:cL ts y x):∃ w,v≤w∧ln[w]?=some x:=by
 induction L with
 | refl=>exact⟨v,Nat.le_refl _,hy⟩
 | step ht _ ih=>
  obtain⟨w,hw,e⟩:=ih
  obtain⟨u',v',a,b,c⟩:=h _ ht
  have:=b6 nd e b
  subst this
  exact⟨v',by omega,c⟩
theorem qg {S:NS}{hd y:Str} (h:∀ p∈S.posts,hrB p.2=false→p.1=hd) (ne:y≠hd):hrB (S.kind y)=true:=by
 unfold NS.kind
 cases hf:S.posts.find? (fun p=>decide (p.1=y)) with
 | none=>rfl
 | some p=>
  have m1:=List.mem_of_find?_eq_some hf
  have m2:p.1=y:=by simpa using List.find?_some hf
  show hrB p.2=true
  cases hb:hrB p.2 with
  | true=>rfl
  | false=>exact absurd (m2.symm.trans (h p m1 hb)) ne
structure PB (nms : List Str) (i : Nat) (ps : List (Str × Kd)) : Prop where
  names : ps.map (·.1) = nms.take i
  kinds : ∀ p ∈ ps, hrB p.2 = false ↔ p.1 = ("h" : Str)
structure Nms (nms : List Str) : Prop where
  nd : nms.Nodup
  ok : ∀ x ∈ nms, bD x = true
  len : nms.length ≤ 20
  non : ¬ ("none" : Str) ∈ nms
theorem PB.start (nms:List Str):PB nms 0 []:=⟨by rw[List.take_zero];rfl,fun p h=>(List.not_mem_nil h).elim⟩
theorem PB.len {nms:List Str}{i:Nat}{ps:List (Str×Kd)} (h:PB nms i ps) (hi:i≤nms.length):ps.length=i:=by
 have:=congrArg List.length h.names
 rw[List.length_map,List.length_take]at this
 omega
theorem PB.due {X:Xc}{nms:List Str} (N:Nms nms) {i:Nat}{ps:List (Str×Kd)} (h:PB nms i ps) {x:Str} (hx:nms[i]?=some x) {k:Kd} (hk:hrB k=false ↔ x=("h":Str)) (hl:rdB k=true→(NS.lis ⟨ps,[],0⟩).length<8):due X ⟨ps,[],0⟩ x k=none∧PB nms (i+1) (ps++[(x,k)])∧x.length≤1000:=by
 have hi:=(List.getElem?_eq_some_iff.mp hx).1
 have pl:=h.len (by omega)
 have xn:=N.ok x (List.mem_of_getElem? hx)
 have nl:=N.len
 have fresh:¬ x∈nms.take i:=fun z=>by
  obtain⟨j,hj,ej⟩:=List.mem_take_iff_getElem.mp z
  have:=b6 N.nd (i:=j) (j:=i) (x:=x) (by rw[List.getElem?_eq_getElem (by omega),ej]) hx
  omega
 refine⟨ui xn ?_ (fun⟨z1,z2⟩=>?_) ?_,⟨?_,fun p hp=>?_⟩,Nat.le_trans (tV xn) (by decide)⟩
 ·show ¬ x∈ps.map (·.1)
  rw[h.names]
  exact fresh
 ·have hxh:=hk.mp z1
  obtain⟨q,hq⟩:=Option.isSome_iff_exists.mp z2
  unfold NS.home at hq
  have m1:q∈ps:=List.mem_of_find?_eq_some hq
  have m2:hrB q.2=false:=by simpa using List.find?_some hq
  have m3:=(h.kinds q m1).mp m2
  exact fresh (by rw[← h.names,hxh,← m3];exact List.mem_map_of_mem m1)
 ·unfold k9
  show (decide (20≤ps.length) || (rdB k&&decide (8≤(NS.lis ⟨ps,[],0⟩).length)))=false
  rw[decide_eq_false (by omega)]
  cases hr:rdB k with
  | false=>rfl
  | true=>
   rw[decide_eq_false (by have:=hl hr;omega)]
   rfl
 ·rw[List.map_append,h.names,List.take_add_one,hx]
  rfl
 ·rcases List.mem_append.mp hp with z|z
  ·exact h.kinds p z
  ·rw[List.mem_singleton.mp z];exact hk
structure LX (S : NS) (ord : List Str) (R : List LT) : Prop where
  ln : LN S ord R
  nxt : ∀ r ∈ R, r.1 < S.next
  hou : ∀ p ∈ S.posts, hrB p.2 = false → p.1 = ("h" : Str)
  lih : ∀ p ∈ S.posts, p.1 = ("h" : Str) → hrB p.2 = false
  non : ¬ ("none" : Str) ∈ ord
theorem LX.first {nms ord:List Str}{ps:List (Str×Kd)} (N:Nms nms) (h:PB nms nms.length ps) (pm:nms.Perm ord) (h0:ord[0]?=some ("h":Str)):LX ⟨ps,[],0⟩ ord [] where
 ln:=by
  have nm:NS.names ⟨ps,[],0⟩=nms:=by
   show ps.map (·.1)=_
   rw[h.names,List.take_length]
  refine⟨by rw[nm];exact pm,pm.nodup_iff.mp N.nd,?_,h0,rfl,fun r hr=>(List.not_mem_nil hr).elim,List.Pairwise.nil,by rw[← pm.length_eq];exact N.len,by simp⟩
  have hm:("h":Str)∈ps.map (·.1):=by
   rw[h.names,List.take_length]
   exact pm.mem_iff.mpr (List.mem_of_getElem? h0)
  obtain⟨p,hp,e⟩:=List.mem_map.mp hm
  have hb:=(h.kinds p hp).mpr e
  show eJ (ps.find? fun p=>!hrB p.2)=_
  cases hf:ps.find? (fun p=>!hrB p.2) with
  | none=>exact absurd (show (!hrB p.2)=true by rw[hb];rfl) (List.find?_eq_none.mp hf p hp)
  | some q=>
   have m1:q∈ps:=List.mem_of_find?_eq_some hf
   have m2:hrB q.2=false:=by simpa using List.find?_some hf
   show V.str q.1=_
   rw[(h.kinds q m1).mp m2]
 nxt:=fun r hr=>(List.not_mem_nil hr).elim
 hou:=fun p hp hb=>(h.kinds p hp).mp hb
 lih:=fun p hp hb=>(h.kinds p hp).mpr hb
 non:=fun z=>N.non (pm.mem_iff.mpr z)
theorem LX.step {S:NS}{ord:List Str}{R:List LT} (h:LX S ord R) (hR:R.length<40) {a b:Nat}{x y:Str}{d:Int} (hab:a<b) (hx:ord[a]?=some x) (hy:ord[b]?=some y):LX (S.tie x y d) ord (R++[(S.next,x,y)]) where
 ln:=by
  refine⟨h.ln.names,h.ln.nd,h.ln.home,h.ln.zero,?_,fun r hr=>?_,?_,h.ln.len,by rw[List.length_append,List.length_singleton];omega⟩
  ·show (S.ties++[(S.next,x,y,d)]).map _=_
   rw[List.map_append,h.ln.ties]
   rfl
  ·rcases List.mem_append.mp hr with z|z
   ·exact h.ln.ok r z
   ·rw[List.mem_singleton.mp z]
    exact⟨a,b,hab,hx,hy⟩
  ·rw[List.map_append,List.pairwise_append]
   refine⟨h.ln.asc,by simp,fun u hu v hv=>?_⟩
   obtain⟨r,hr,rfl⟩:=List.mem_map.mp hu
   have:v=S.next:=by simpa using hv
   rw[this]
   exact h.nxt r hr
 nxt:=fun r hr=>by
  show r.1<S.next+1
  rcases List.mem_append.mp hr with z|z
  ·have:=h.nxt r z;omega
  ·rw[List.mem_singleton.mp z]
   show S.next<S.next+1
   omega
 hou:=h.hou
 lih:=h.lih
 non:=h.non
theorem LX.free {S:NS}{ord:List Str}{R:List LT} (h:LX S ord R) {a b:Nat}{x y:Str} (hab:a<b) (hx:ord[a]?=some x) (hy:ord[b]?=some y):x∈S.names∧y∈S.names∧hrB (S.kind y)=true∧¬ cL S.ties y x∧S.ties.length=R.length∧∀ t∈S.ties,t.1<S.next:=by
 refine⟨h.ln.names.mem_iff.mpr (List.mem_of_getElem? hx),h.ln.names.mem_iff.mpr (List.mem_of_getElem? hy),qg h.hou fun z=>?_,fun L=>?_,?_,fun t ht=>?_⟩
 ·rw[z]at hy
  have:=b6 h.ln.nd hy h.ln.zero
  omega
 ·obtain⟨w',hw,ew⟩:=tZ h.ln.nd (fun t ht=>h.ln.tie ht) hy L
  have:=b6 h.ln.nd ew hx
  omega
 ·rw[← h.ln.ties,List.length_map]
 ·exact h.nxt (t.1,t.2.1,t.2.2.1) (h.ln.ties▸List.mem_map_of_mem (f:=fun t:Tie=>(t.1,t.2.1,t.2.2.1)) ht)
theorem NetAt.updL {c:Cl}{H:Hp}{n dp dt l:Addr}{S:NS}{xs:List V}{o:HO} (N:NetAt c H n dp dt S) (hl:H l=some (.lst xs)):NetAt c (upd H l o) n dp dt S:=by
 have k:∀ b u,H b=some u→(∀ ys,u≠.lst ys)→upd H l o b=some u:=fun b u hb hu=>by
  rw[aa (fun z=>by rw[z,hl]at hb;cases hb;exact hu _ rfl)];exact hb
 obtain⟨⟨dx,h1⟩,⟨kp,h2,q2⟩,⟨kt,h3,q3⟩,h4⟩:=N
 exact⟨⟨dx,k _ _ h1 (fun _ z=>nomatch z)⟩,⟨kp,k _ _ h2 (fun _ z=>nomatch z),Paired.mapP q2 fun kv p ⟨e,a,dy,ev,ha⟩=>⟨e,a,dy,ev,k _ _ ha (fun _ z=>nomatch z)⟩⟩,⟨kt,k _ _ h3 (fun _ z=>nomatch z),Paired.mapP q3 fun kv p ⟨e,a,ev,ha⟩=>⟨e,a,ev,k _ _ ha (fun _ z=>nomatch z)⟩⟩,h4⟩
theorem TiesS.but {c:Cl}{H H':Hp}{n dp dt l:Addr}{S:NS}{R:List LT} (N:NetAt c H n dp dt S) (b:But2 n dt H H') (h:TiesS H l R):TiesS H' l R:=by
 obtain⟨xs,h1,h2⟩:=h
 obtain⟨dx,hn⟩:=N.ins
 obtain⟨kt,hd,_⟩:=N.ties
 exact⟨xs,b _ _ (bb h1 hn (fun z=>nomatch z)) (bb h1 hd (fun z=>nomatch z)) h1,Paired.mapP h2 fun v r ⟨t,e,ht⟩=>⟨t,e,b _ _ (bb ht hn (fun z=>nomatch z)) (bb ht hd (fun z=>nomatch z)) ht⟩⟩
theorem TiesS.snoc {H:Hp}{l T:Addr}{R:List LT}{xs:List V}{r:LT} (hl:H l=some (.lst xs)) (hp:Paired (TieT H) xs R) (hT:H T=some (.tup [.int r.1,.str r.2.1,.str r.2.2])):TiesS (upd H l (.lst (xs++[.ref T]))) l (R++[r]):=by
 refine⟨_,a9,Paired.snoc' (Paired.mapP hp fun v r ⟨b,e,hb⟩=>⟨b,e,?_⟩) ⟨T,rfl,?_⟩⟩
 ·rw[aa (bb hb hl (fun z=>nomatch z))];exact hb
 ·rw[aa (bb hT hl (fun z=>nomatch z))];exact hT
end K42
namespace K42
open PySem L2
open PyProof.Rows (boot_list boot_int boot_bool boot_tuple boot_str boot_dict boot_all boot_sorted)
def NT:List Str:=["b","a","ab","c","ba","d"]
theorem nt_ok (m:Nat)(h:m≤6):(NT.take m++[("h":Str)]).Nodup∧∀ x∈NT.take m++[("h":Str)],bD x=true∧x≠"none":=by
 have:∀ i:Fin 7,(NT.take i.val++[("h":Str)]).Nodup∧∀ x∈NT.take i.val++[("h":Str)],bD x=true∧x≠"none":=by decide +kernel
 exact this ⟨m,by omega⟩
theorem oQ {xs:List V}{m:Nat} (h:m≤xs.length):cm xs (some (m:Int)) none=xs.drop m:=by
 unfold cm
 rw[HT.sIx_nat,HT.sIx_none,Nat.min_eq_left h]
 exact List.take_of_length_le (by rw[List.length_drop];omega)
theorem t7 {α:Type}(xs:List α)(m:Nat):(xs.drop m++xs.take m).Perm xs:=by
 have:=List.perm_append_comm (l₁:=xs.drop m) (l₂:=xs.take m)
 rw[List.take_append_drop]at this
 exact this
theorem fO (ps:List (Str×Kd))(x:Str)(k:Kd):NS.lis ⟨ps++[(x,k)],[],0⟩=NS.lis ⟨ps,[],0⟩++(if rdB k=true then [x] else []):=by
 unfold NS.lis
 show ((ps++[(x,k)]).filter fun p=>rdB p.2).map (·.1)=_
 rw[List.filter_append,List.map_append]
 congr 1
 cases hk:rdB k with
 | true=>simp[List.filter,hk]
 | false=>simp[List.filter,hk]
def lg (nms:List Str):List Str:="h"::nms.filter fun x=>!decide (x=("h":Str))
theorem tJ {nms:List Str}(nd:nms.Nodup)(h:("h":Str)∈nms):nms.Perm (lg nms):=by
 unfold lg
 have h1:=List.perm_cons_erase h
 rw[nd.erase_eq_filter]at h1
 refine h1.trans (.of_eq (congrArg _ (List.filter_congr fun x _=>?_)))
 by_cases c:x=("h":Str)
 ·simp[c]
 ·simp[c]
theorem rq (xs:List V):(cm xs (some 2) (some 16)).length≤14:=by
 unfold cm
 rw[show (some (2:Int))=some ((2:Nat):Int) from rfl,show (some (16:Int))=some ((16:Nat):Int) from rfl,HT.sIx_nat,HT.sIx_nat,List.length_take,List.length_drop]
 omega
theorem mM {xs:List V}{lo hi:Option Int}{v:V} (h:v∈cm xs lo hi):v∈xs:=List.mem_of_mem_drop (List.mem_of_mem_take h)
theorem qV (ps:List (Str×Kd)):(NS.lis ⟨ps,[],0⟩).length≤ps.length:=by
 unfold NS.lis
 rw[List.length_map]
 exact List.length_filter_le _ _
section
variable {P : Program}{w : World}{K : PySem.W.Frag}{mg : Str → Option Value}{base : Heap}
theorem sqm {H H':Hp}{a:Addr}{xs:List V} (h:SqL K H a xs) (e:Same H H'):SqL K H' a xs:=by
 rcases h with (h|h)|h
 ·exact .inl (.inl (e _ _ h))
 ·obtain⟨o,h⟩:=h
  exact .inl (.inr ⟨o,e _ _ h⟩)
 ·exact .inr h
def fG (K:PySem.W.Frag)(c:Cl):Sp:=fun vs H Q _=>∃ (z:Int)(a:Addr)(cs:List Int),vs=[.int z,.ref a]∧SqL K H a (cs.map V.int)∧
 ∀ t n lt ll lo dp dt H' S ord R,Same H H'→H t=none→H' t=some (.tup [.ref n,.ref lt,.ref ll,.ref lo])→NetAt c H' n dp dt S→TiesS H' lt R→H' ll=some (.lst (S.lis.map V.str))→H' lo=some (.lst (ord.map V.str))→LX S ord R→(∀ x,(aG R x).length≤14)→Q (.ref t) H'
abbrev pK:Stmt:=top 48
theorem sc_Lnet:am ["_law_cell","_law_script","_law_net_here","_law_names","_law_at","_law_listeners","_law_k","_law_name","_law_order","_law_ties","_law_xs","_law_one","_law_other"] ["_law_cell","_law_script"] (ah pK):=⟨rfl,rfl,rfl,by decide +kernel,rfl,by decide +kernel,by decide +kernel⟩
theorem vd {c:Cl}{X:Xc}{Y:Xt}{f:Addr}{fd:FuncData} (F:Fun K "_law_net" "_law_net" pK f fd) (T:sL mg) (D_Net:Dk P w K mg base 1 "Net" c.net ["self"] (gR c)) (D_Lstream:Df P w K mg base 1 "_law_stream" ["_law_cell","_law_many"] cX)
  (D_Net_house:DmX P w K mg base 4 c.net "house" ["self","name"] (cE c X .house)) (D_Net_listener:DmX P w K mg base 4 c.net "listener" ["self","name"] (cE c X .listener)) (D_Net_post:DmX P w K mg base 4 c.net "post" ["self","name"] (cE c X .post))
  (D_Net_tied:uy P w K mg base 3 c.net "tie" ["self","one","other","delay"] [.int 1] (jv c Y)):FnOk P w K mg base CX0 5 f fd ["_law_cell","_law_script"] (fG K c):=by
 refine F.ok sc_Lnet (fun vs H Q E h=>?_) (fun cdv A outer s H vs Q E hr h=>?_)
 ·obtain⟨z,a,cs,rfl,_⟩:=h
  rfl
 ·obtain⟨z,a,cs,rfl,ha,q⟩:=h
  have ND:=sc_Lnet.nd
  refine⟨_,(ad (au (i:=2) ND rfl (by first|exact Or.inl rfl|exact Or.inr rfl) (kX D_Net (hr.mono (by decide)) rfl))
 (ad (au (i:=3) ND rfl (by first|exact Or.inl rfl|exact Or.inr rfl) (ax jk (cA (mY K) (bi (a8 bu (a8 bu (a8 bu (a8 bu (a8 bu (a8 bu ae))))))) gW (bI (ax bS aj (ax aS (pv 0) aj)))) (bi (a8 bu ae))))
 (ad (au (i:=4) ND rfl (by first|exact Or.inl rfl|exact Or.inr rfl) (ax aS (ax bQ (pv 0) aj) (aB (j6 K) rfl T.n_len boot_len (a8 (pv 3) ae))))
 (ad (au (i:=3) ND rfl (by first|exact Or.inl rfl|exact Or.inr rfl) (ax jk (cA (mY K) (pv 3) (bI (pv 4)) gW) (cA (mY K) (pv 3) gW (bI (pv 4)))))
 (ad (au (i:=5) ND rfl (by first|exact Or.inl rfl|exact Or.inr rfl) (bi ae))
 (ad (bt PassesOwn.never rfl (qN K rfl T.n_enumerate (a8 (pv 3) ae)) (gE K (n:=2) rfl (ak (ai (i:=6) ND rfl (by first|exact Or.inl rfl|exact Or.inr rfl)) (ak (ai (i:=7) ND rfl (by first|exact Or.inl rfl|exact Or.inr rfl)) bh)))
  (af (cf (av cJ (pv 7) bu (aE _))
  (af (aF (bd cK (pv 2) D_Net_house (hr.mono (by decide)) (a8 (pv 7) ae))))
  (af (cf (av jK (ax aS (ax bQ (pv 0) (ax bS aj (pv 6))) aj) aj (aE _))
  (ad (aF (bd cK (pv 2) D_Net_listener (hr.mono (by decide)) (a8 (pv 7) ae)))
 (af (aF (bmK K PySem.F.plainAttrs_list PySem.F.slot_list_append PySem.F.type_list_append be (pv 5) (a8 (pv 7) ae)))))
  (af (aF (bd cK (pv 2) D_Net_post (hr.mono (by decide)) (a8 (pv 7) ae)))))))))
 (ad (au (i:=8) ND rfl (by first|exact Or.inl rfl|exact Or.inr rfl) (ax jk (bi (a8 bu ae)) (aO rfl (ao (nT:=1) (js:=[]) (N':=["_law_name"]) rfl rfl (by kernel_rfl)) (cS K (pv 3))
  (fun _ _ _ _ _=>(ai (i:=0) (show List.Nodup (["_law_name"]:List Str) by decide +kernel) rfl (by first|exact Or.inl rfl|exact Or.inr rfl)))
  (fun _ _ _ _ _=>(gX (av op_ne (pv 0) bu (aE _))))
  (fun _ _ _ _ _=>(pv 0)))))
 (ad (au (i:=9) ND rfl (by first|exact Or.inl rfl|exact Or.inr rfl) (bi ae))
 (ad (bt PassesOwn.never rfl (cS K (cA (mY K) (pv 1) (bI aj) (bI aj))) (ai (i:=0) ND rfl (by first|exact Or.inl rfl|exact Or.inr rfl))
  (ad (au (i:=10) ND rfl (by first|exact Or.inl rfl|exact Or.inr rfl) (aA D_Lstream (hr.mono (by decide)) rfl (a8 (pv 0) (a8 aj ae))))
 (ad (au (i:=11) ND rfl (by first|exact Or.inl rfl|exact Or.inr rfl) (ax aS (aV (cg K) (pv 10) aj (fun _ _=>rfl)) (aB (j6 K) rfl T.n_len boot_len (a8 (pv 8) ae))))
 (ad (au (i:=12) ND rfl (by first|exact Or.inl rfl|exact Or.inr rfl) (ax aS (aV (cg K) (pv 10) aj (fun _ _=>rfl)) (aB (j6 K) rfl T.n_len boot_len (a8 (pv 8) ae))))
 (af (cf (av jK (pv 11) (pv 12) (aE _))
  (af (aF (bmK K PySem.F.plainAttrs_list PySem.F.slot_list_append PySem.F.type_list_append be (pv 9) (a8 (c6 (a8 (iA cK (pv 2) D_Net_tied (hr.mono (by decide)) (a8 (aV (cg K) (pv 8) (pv 11) (fun _ _=>rfl)) (a8 (aV (cg K) (pv 8) (pv 12) (fun _ _=>rfl)) ae))) (a8 (aV (cg K) (pv 8) (pv 11) (fun _ _=>rfl)) (a8 (aV (cg K) (pv 8) (pv 12) (fun _ _=>rfl)) ae)))) ae))))
  aH))))))
 (af (ay (c6 (a8 (pv 2) (a8 (pv 9) (a8 (pv 5) (a8 (pv 8) ae)))))))))))))))),?_⟩
  intro n dx hn hdx nd
  refine⟨n,dx,rfl,a9,fun dp dt H1 p1 p2 p3 b1 hi hp ht=>⟨rfl,?_⟩⟩
  have x1:dp≠n:=fun z=>by rw[z,a9]at p1;cases p1
  have x2:dt≠n:=fun z=>by rw[z,a9]at p2;cases p2
  have y1:dp≠dx:=fun z=>by rw[aa x1,z,a9]at p1;cases p1
  have y2:dt≠dx:=fun z=>by rw[aa x2,z,a9]at p2;cases p2
  have p1:H dp=none:=by rw[aa x1,aa y1]at p1;exact p1
  have p2:H dt=none:=by rw[aa x2,aa y2]at p2;exact p2
  have e1:Same H H1:=fun a o ha=>b1 a o (ag ha hn) (by rw[aa (ag ha hn),aa (ag ha hdx)];exact ha)
  have N1:NetAt c H1 n dp dt ⟨[],[],0⟩:=⟨⟨dx,hi⟩,⟨[],hp,.nil⟩,⟨[],ht,.nil⟩,p3⟩
  clear hp ht b1 hi
  have m0:0≤z % 6:=Int.emod_nonneg _ (by decide)
  have m1:z % 6<6:=Int.emod_lt_of_pos _ (by decide)
  obtain⟨m,em⟩:=Int.eq_ofNat_of_zero_le (show 0≤1+z % 6 by omega)
  refine⟨(by show 6≤sizeLine;decide),fun L0 H2 e2 h2 hL0=>⟨_,rfl,_,_,rfl,rfl,(by show (0:Int)<6;decide),_,_,rfl,rfl,_,rfl,L0,_,rfl,SqL.of hL0,fun L1 H3 e3 h3 hL1=>⟨(by show 1≤sizeLine;decide),fun L2 H4 e4 h4 hL2=>⟨L1,L2,_,_,rfl,rfl,e4 _ _ hL1,hL2,?_,fun L3 H5 e5 h5 hL3=>?_⟩⟩⟩⟩
  ·have:(cm (NT.map V.str) none (some (m:Int))).length≤6:=by
    rw[iK (by show m≤6;omega),List.length_take]
    exact Nat.min_le_right _ _
   rw[em]
   show (cm (NT.map V.str) none (some (m:Int))).length+1≤2 ^ 24
   omega
  have hL3':H5 L3=some (.lst ((NT.take m++[("h":Str)]).map V.str)):=by
   rw[hL3,em]
   show some (HO.lst (cm (NT.map V.str) none (some (m:Int))++[V.str "h"]))=_
   rw[iK (by show m≤6;omega),List.map_append,List.map_take]
   rfl
  obtain⟨nd0,ok0⟩:=nt_ok m (by omega)
  have l0:(NT.take m++[("h":Str)]).length≤7∧1≤(NT.take m++[("h":Str)]).length:=by
   rw[List.length_append,List.length_take]
   have:NT.length=6:=rfl
   simp
   omega
  have hh0:("h":Str)∈NT.take m++[("h":Str)]:=by simp
  clear hL3
  have e05:=(((e1.trans e2).trans e3).trans e4).trans e5
  have N5:=(((N1.mono e2).mono e3).mono e4).mono e5
  generalize NT.take m++[("h":Str)]=nm0 at hL3' nd0 ok0 l0 hh0
  have lpos:(0:Int)<((nm0.map V.str).length:Int):=by rw[List.length_map];omega
  obtain⟨at_,eat⟩:=Int.eq_ofNat_of_zero_le (Int.emod_nonneg (z / 6) (b:=((nm0.map V.str).length:Int)) (by omega))
  have hat:at_≤(nm0.map V.str).length:=by
   have:=Int.emod_lt_of_pos (z / 6) lpos
   rw[eat]at this
   omega
  refine⟨_,rfl,_,_,rfl,rfl,⟨by omega,by omega⟩,_,rfl,L3,_,rfl,.inl (SqL.of hL3'),_,_,rfl,rfl,lpos,?_⟩
  refine⟨_,rfl,_,rfl,_,rfl,L3,_,rfl,SqL.of hL3',fun L4 H6 e6 h6 hL4=>⟨_,rfl,_,rfl,_,rfl,L3,_,rfl,SqL.of (e6 _ _ hL3'),fun L5 H7 e7 h7 hL5=>⟨L4,L5,_,_,rfl,rfl,e7 _ _ hL4,hL5,?_,fun L6 H8 e8 h8 hL6=>?_⟩⟩⟩
  ·rw[eat,oQ hat,iK hat,List.length_drop,List.length_take]
   show _≤2 ^ 24
   rw[List.length_map]
   omega
  rw[eat,oQ hat,iK hat,← List.map_drop,← List.map_take,← List.map_append]at hL6
  have pm0:=t7 nm0 at_
  have NN:Nms (nm0.drop at_++nm0.take at_):=⟨pm0.nodup_iff.mpr nd0,fun x hx=>(ok0 x (pm0.mem_iff.mp hx)).1,by rw[pm0.length_eq];omega,fun z=>(ok0 _ (pm0.mem_iff.mp z)).2 rfl⟩
  have hh:("h":Str)∈nm0.drop at_++nm0.take at_:=pm0.mem_iff.mpr hh0
  have len7:(nm0.drop at_++nm0.take at_).length≤7:=by rw[pm0.length_eq];exact l0.1
  generalize nm0.drop at_++nm0.take at_=nms at hL6 NN hh len7
  have e08:=((e05.trans e6).trans e7).trans e8
  have N8:=((N5.mono e6).mono e7).mono e8
  refine⟨(by show 0≤sizeLine;decide),fun ll H9 e9 h9 hll=>?_⟩
  have e09:=e08.trans e9
  have N9:=N8.mono e9
  have l9:=e9 _ _ hL6
  have lln:H ll=none:=e08.free h9
  have nll:L6≠ll:=ag hL6 h9
  refine⟨_,rfl,L6,_,rfl,l9,oA (K:=K) (a:=L6) (xs:=nms.map V.str) (fun i σ G=>(∃ o6 o7,σ=[some (.int z),some (.ref a),some (.ref n),some (.ref L6),some (.int ((z / 6) % ((nm0.map V.str).length:Int))),some (.ref ll),o6,o7,none,none,none,none,none])∧Same H G∧G L6=some (.lst (nms.map V.str))∧∃ ps,PB nms i ps∧NetAt c G n dp dt ⟨ps,[],0⟩∧G ll=some (.lst ((NS.lis ⟨ps,[],0⟩).map V.str)))
   ⟨⟨none,none,rfl⟩,e09,l9,[],PB.start nms,N9,hll⟩ (fun i σ G _ h=>SqL.of h.2.2.1) ?_ ?_⟩
  ·rintro i v T' σ G ev ⟨⟨o6,o7,rfl⟩,eG,lG,ps,hB,NG,hlG⟩ hT
   obtain⟨x,ex,rfl⟩:=Option.map_eq_some_iff.mp (List.getElem?_map▸ev)
   have il:i<nms.length:=(List.getElem?_eq_some_iff.mp ex).1
   have eT:Same G (upd G T' (.tup [.int i,.str x])):=az (Same.refl _) hT
   generalize upd G T' (.tup [.int i,.str x])=G1 at eT
   have e01:=eG.trans eT
   have NG1:=NG.mono eT
   have pl:=hB.len (by omega)
   obtain⟨dx1,hN1⟩:=id NG1.ins
   obtain⟨kvp,hkp,_⟩:=id NG1.posts
   have nL6:L6≠dp:=fun y=>by rw[← y,eT _ _ lG]at hkp;cases hkp
   have nLl:ll≠dp:=fun y=>by rw[← y,eT _ _ hlG]at hkp;cases hkp
   have put:∀ (k:Kd),(hrB k=false ↔ x=("h":Str))→due X ⟨ps,[],0⟩ x k=none∧PB nms (i+1) (ps++[(x,k)])∧x.length≤1000:=fun k hk=>hB.due (X:=X) NN ex hk (fun _=>by have:=qV ps;omega)
   have after:∀ H',(∀ b o,b≠dp→G1 b=some o→H' b=some o)→Same H H'∧H' L6=some (.lst (nms.map V.str))∧H' ll=some (.lst ((NS.lis ⟨ps,[],0⟩).map V.str)):=fun H' b'=>⟨fun y o hy=>b' y o (ag hy p1) (e01 _ _ hy),b' _ _ nL6 (eT _ _ lG),b' _ _ nLl (eT _ _ hlG)⟩
   have pz:(NS.posts ⟨ps,[],0⟩).length≤1000:=by show ps.length≤1000;omega
   refine⟨_,fun σ' H' h=>h,⟨_,rfl,rfl,_,rfl,bT (fun g=>?_) (fun g=>?_)⟩⟩
   ·have g:x=("h":Str):=by have:=of_decide_eq_true g;injection this
    obtain⟨d1,a3,d3⟩:=put .house ⟨fun _=>g,fun _=>rfl⟩
    refine⟨_,rfl,n,dx1,_,rfl,hN1,rfl,_,rfl,n,dp,dt,_,x,rfl,NG1,d3,pz,fun r hr'=>absurd hr' (by rw[d1];exact fun z=>nomatch z),fun _ H' b' a4=>?_⟩
    obtain⟨a1,a2,a5⟩:=after H' b'
    refine⟨⟨_,_,rfl⟩,a1,a2,_,a3,a4,?_⟩
    rw[a5,fO]
    simp[rdB]
   ·have g:¬ x=("h":Str):=fun y=>g (decide_eq_true (by rw[y]))
    have hk:∀ k,hrB k=true→(hrB k=false ↔ x=("h":Str)):=fun k h=>⟨fun y=>(by rw[h]at y;cases y),fun y=>absurd y g⟩
    refine⟨_,fun σ' H' h=>h,⟨_,rfl,_,rfl,_,_,rfl,rfl,_,_,rfl,rfl,⟨by omega,by omega⟩,_,_,rfl,rfl,(by show (0:Int)<3;decide),_,_,rfl,rfl,_,rfl,bT (fun g2=>?_) (fun g2=>?_)⟩⟩
    ·obtain⟨d1,a3,d3⟩:=put .listener (hk _ rfl)
     refine⟨_,rfl,n,dx1,_,rfl,hN1,rfl,_,rfl,n,dp,dt,_,x,rfl,NG1,d3,pz,fun r hr'=>absurd hr' (by rw[d1];exact fun z=>nomatch z),fun _ H' b' a4=>?_⟩
     obtain⟨a1,a2,a5⟩:=after H' b'
     refine⟨_,rfl,.inl ⟨rfl,_,SqL.of a5⟩,_,rfl,ll,_,_,rfl,rfl,a5,?_,⟨_,_,rfl⟩,aw a1 lln,?_,_,a3,a4.updL a5,?_⟩
     ·rw[List.length_map]
      have:=qV ps
      show _<2 ^ 24
      omega
     ·rw[aa nll];exact a2
     ·rw[a9,fO,List.map_append]
      rfl
    ·obtain⟨d1,a3,d3⟩:=put .post (hk _ rfl)
     refine⟨_,rfl,n,dx1,_,rfl,hN1,rfl,_,rfl,n,dp,dt,_,x,rfl,NG1,d3,pz,fun r hr'=>absurd hr' (by rw[d1];exact fun z=>nomatch z),fun _ H' b' a4=>?_⟩
     obtain⟨a1,a2,a5⟩:=after H' b'
     refine⟨⟨_,_,rfl⟩,a1,a2,_,a3,a4,?_⟩
     rw[a5,fO]
     simp[rdB]
  ·rintro σ G ⟨⟨o6,o7,rfl⟩,eG,lG,ps,hB,NG,hlG⟩
   rw[List.length_map]at hB
   refine⟨(by show 1≤sizeLine;decide),fun La G1 e1' h1' hLa=>⟨_,rfl,L6,rfl,⟨_,SqL.of (e1' _ _ lG)⟩,ki (keep:=fun i=>!decide (nms.getD i ""=("h":Str))) (g:=fun i=>.str (nms.getD i "")) (e1' _ _ lG) (by rw[List.length_map];omega) (fun i v H2 ev e2=>?_) (fun Lb G2 h2' e2' hLb=>⟨La,Lb,_,_,rfl,rfl,e2' _ _ hLa,hLb,?_,fun lo G3 e3' h3' hlo=>?_⟩)⟩⟩
   ·obtain⟨x,ex,rfl⟩:=Option.map_eq_some_iff.mp (List.getElem?_map▸ev)
    rw[b8 ex]
    refine⟨_,rfl,rfl,_,rfl,?_⟩
    by_cases c0:x=("h":Str)
    ·rw[decide_eq_true (show V.str x=V.str "h" by rw[c0]),decide_eq_true c0]
     exact bv ⟨rfl,Same.refl _⟩
    ·rw[decide_eq_false (show ¬ V.str x=V.str "h" from fun z=>c0 (by injection z)),decide_eq_false c0]
     exact ci ⟨_,rfl,rfl,rfl,Same.refl _⟩
   ·rw[List.length_map]
    have:=List.length_filter_le (fun i=>!decide (nms.getD i ""=("h":Str))) (List.range (nms.map V.str).length)
    rw[List.length_range,List.length_map]at this
    show 1+_≤2 ^ 24
    rw[List.length_map]
    omega
   have hlo':G3 lo=some (.lst ((lg nms).map V.str)):=by
    rw[hlo,List.length_map]
    have:=fU (d:=("":Str)) (fun x=>!decide (x=("h":Str))) (fun x=>V.str x) nms
    rw[this]
    rfl
   have pmo:=tJ NN.nd hh
   have X0:=LX.first NN hB pmo rfl
   have olen:1≤(lg nms).length:=by unfold lg;rw[List.length_cons];omega
   clear hlo pmo
   generalize lg nms=ord at hlo' X0 olen
   have e03:=((eG.trans e1').trans e2').trans e3'
   have N3:=((NG.mono e1').mono e2').mono e3'
   have hl3:=e3' _ _ (e2' _ _ (e1' _ _ hlG))
   refine⟨(by show 0≤sizeLine;decide),fun tl G4 e4' h4' htl=>?_⟩
   have e04:=e03.trans e4'
   have ntl:tl≠lo:=(ag hlo' h4').symm
   have ntl2:tl≠ll:=(ag hl3 h4').symm
   have tln:H tl=none:=e03.free h4'
   refine⟨_,rfl,_,rfl,_,rfl,a,_,rfl,sqm ha e04,fun L G5 e5' h5' hL=>?_⟩
   have nL1:L≠tl:=(ag htl h5').symm
   refine⟨L,rfl,⟨_,SqL.of hL⟩,bE (K:=K) (a:=L) (xs:=cm (cs.map V.int) (some 2) (some 16)) (fun i σ H'=>(∃ o0 o3 o4 o6 o7 o10 o11 o12,σ=[o0,some (.ref a),some (.ref n),o3,o4,some (.ref ll),o6,o7,some (.ref lo),some (.ref tl),o10,o11,o12])∧Same H H'∧H' L=some (.lst (cm (cs.map V.int) (some 2) (some 16)))∧H' lo=some (.lst (ord.map V.str))∧∃ S R,NetAt c H' n dp dt S∧LX S ord R∧TiesS H' tl R∧R.length≤i∧H' ll=some (.lst (S.lis.map V.str)))
    ⟨⟨_,_,_,_,_,_,_,_,rfl⟩,e04.trans e5',hL,e5' _ _ (e4' _ _ hlo'),_,[],(N3.mono e4').mono e5',X0,⟨[],e5' _ _ htl,.nil⟩,Nat.le_refl _,e5' _ _ (e4' _ _ hl3)⟩ (fun i σ H' _ h=>SqL.of h.2.2.1) ?_ ?_⟩
   ·rintro i v σ H7 ev ⟨⟨o0,o3,o4,o6,o7,o10,o11,o12,rfl⟩,e7,hL7,hl7,S,R,N7,X7,T7,hR,hS7⟩
    obtain⟨cell,_,rfl⟩:=List.mem_map.mp (mM (List.mem_of_getElem? ev))
    have hi14:i<14:=Nat.lt_of_lt_of_le (List.getElem?_eq_some_iff.mp ev).1 (rq _)
    refine⟨_,rfl,cell,2,rfl,by decide,fun xl H8 xs e8 h8 hxl hx8=>?_⟩
    have e08:=e7.trans e8
    have hl8:=e8 _ _ hl7
    obtain⟨x0,x1',rfl⟩:∃ x0 x1,xs=[x0,x1]:=by
     match xs,hxl with
     | [x0,x1],_=>exact⟨x0,x1,rfl⟩
    have lpos:(0:Int)<((ord.map V.str).length:Int):=by rw[List.length_map];omega
    refine⟨_,rfl,xl,_,0,.int x0,rfl,rfl,SqL.of hx8,bc (j:=0) rfl,_,rfl,lo,_,rfl,.inl (SqL.of hl8),_,_,rfl,rfl,lpos,?_⟩
    refine⟨_,rfl,xl,_,1,.int x1',rfl,rfl,SqL.of hx8,bc (j:=1) rfl,_,rfl,lo,_,rfl,.inl (SqL.of hl8),_,_,rfl,rfl,lpos,?_⟩
    have modn:∀ r:Int,∃ u:Nat,r % ((ord.map V.str).length:Int)=(u:Int)∧u<ord.length:=fun r=>by
     have r0:0≤r % ((ord.map V.str).length:Int):=Int.emod_nonneg _ (by omega)
     have r1:r % ((ord.map V.str).length:Int)<((ord.map V.str).length:Int):=Int.emod_lt_of_pos _ lpos
     obtain⟨u,eu⟩:=Int.eq_ofNat_of_zero_le r0
     refine⟨u,eu,?_⟩
     rw[eu,List.length_map]at r1
     omega
    obtain⟨u,eu,hu⟩:=modn x0
    obtain⟨v,ev',hv⟩:=modn x1'
    refine⟨_,fun σ' H' h=>h,?_⟩
    refine⟨_,rfl,_,rfl,_,_,rfl,rfl,_,rfl,bT (fun g=>?_) (fun g=>?_)⟩
    ·have g:=of_decide_eq_true g
     have guv:u<v:=by
      have g:x0 % ((ord.map V.str).length:Int)<x1' % ((ord.map V.str).length:Int):=g
      rw[eu,ev']at g
      omega
     have N8:=N7.mono e8
     obtain⟨dx8,hN8⟩:=id N8.ins
     obtain⟨ts8,htl8,hp8⟩:=T7.mono e8
     have xat:∀ k,(hk:k<ord.length)→(ord.map V.str)[k]?=some (.str (ord[k]'hk)):=fun k hk=>by rw[List.getElem?_map,List.getElem?_eq_getElem hk];rfl
     have a1:atI (ord.map V.str) (x0 % ((ord.map V.str).length:Int))=some (.str (ord[u]'hu)):=by rw[eu];exact bc (xat u hu)
     have a2:atI (ord.map V.str) (x1' % ((ord.map V.str).length:Int))=some (.str (ord[v]'hv)):=by rw[ev'];exact bc (xat v hv)
     have isd:cy 1=true:=by decide
     obtain⟨f1,f2,k1,k2,tlen,tnum⟩:=X7.free guv (List.getElem?_eq_getElem hu) (List.getElem?_eq_getElem hv)
     refine⟨_,rfl,.inl ⟨rfl,_,SqL.of htl8⟩,_,rfl,n,dx8,_,rfl,hN8,rfl,_,rfl,_,rfl,lo,_,_,_,rfl,rfl,SqL.of hl8,a1,_,rfl,_,rfl,lo,_,_,_,rfl,rfl,SqL.of hl8,a2,?_⟩
     refine⟨n,dp,dt,S,ord[u],ord[v],1,rfl,N8,f1,f2,by omega,tnum,fun y=>?_,fun _ y=>absurd y k2,fun _ _ y=>?_,fun _ _ _ y=>?_,fun _ _ _ _ H9 b9 N9=>?_⟩
     ·rw[k1]at y;cases y
     ·rw[isd]at y;cases y
     ·omega
     have hn8:=hN8
     obtain⟨kt8,hd8,_⟩:=N8.ties
     have keepL:∀ {b:Addr}{xs:List V},H8 b=some (.lst xs)→H9 b=some (.lst xs):=fun {b xs} hb=>b9 _ _ (bb hb hn8 (fun z=>nomatch z)) (bb hb hd8 (fun z=>nomatch z)) hb
     have T9:TiesS H9 tl R:=TiesS.but N8 b9 ⟨ts8,htl8,hp8⟩
     refine⟨_,rfl,_,rfl,lo,_,_,_,rfl,rfl,SqL.of (keepL hl8),a1,_,rfl,_,rfl,lo,_,_,_,rfl,rfl,SqL.of (keepL hl8),a2,(by show 3≤sizeLine;decide),fun T' H10 e10 h10 hT=>?_⟩
     obtain⟨ts10,htl10,hp10⟩:=T9.mono e10
     have tsl:ts10.length=R.length:=Paired.length hp10
     refine⟨tl,ts10,_,rfl,rfl,htl10,(by rw[tsl];have:sizeLine=2 ^ 24:=rfl;omega),⟨_,_,_,_,_,_,_,_,rfl⟩,?_,?_,?_,_,R++[(S.next,ord[u],ord[v])],(N9.mono e10).updL htl10,X7.step (by omega) guv (List.getElem?_eq_getElem hu) (List.getElem?_eq_getElem hv),TiesS.snoc htl10 hp10 hT,by rw[List.length_append,List.length_singleton];omega,?_⟩
     ·exact aw (fun b o hb=>e10 _ _ (b9 _ _ (ag hb hn) (ag hb p2) (e08 _ _ hb))) tln
     ·rw[aa nL1];exact e10 _ _ (keepL (e8 _ _ hL7))
     ·rw[aa ntl.symm];exact e10 _ _ (keepL hl8)
     ·rw[aa ntl2.symm];exact e10 _ _ (keepL (e8 _ _ hS7))
    ·exact⟨⟨_,_,_,_,_,_,_,_,rfl⟩,e08,e8 _ _ hL7,hl8,S,R,N7.mono e8,X7,T7.mono e8,by omega,e8 _ _ hS7⟩
   ·rintro σ H7 ⟨⟨o0,o3,o4,o6,o7,o10,o11,o12,rfl⟩,e7,hL7,hl7,S,R,N7,X7,T7,hR,hS7⟩
    have r14:R.length≤14:=Nat.le_trans hR (rq _)
    exact⟨_,rfl,_,rfl,_,rfl,_,rfl,(by show 4≤sizeLine;decide),fun t H8 e8 h8 ht=>q t n tl ll lo dp dt H8 S ord R (e7.trans e8) (e7.free h8) ht (N7.mono e8) (T7.mono e8) (e8 _ _ hS7) (e8 _ _ hl7) X7 fun x=>by
     unfold aG
     rw[List.length_map]
     exact Nat.le_trans (List.length_filter_le _ _) r14⟩
end
theorem iH (R:List LT)(r:LT)(x:Str):(aG (R++[r]) x).length=(aG R x).length+(if r.2.2=x then 1 else 0):=by
 unfold aG
 rw[List.filter_append,List.map_append,List.length_append]
 congr 1
 by_cases c:r.2.2=x
 ·rw[if_pos c];simp[List.filter,c]
 ·rw[if_neg c];simp[List.filter,c]
theorem rp (xs:List V):(cm xs (some 2) (some 4)).length≤2:=by
 unfold cm
 rw[show (some (2:Int))=some ((2:Nat):Int) from rfl,show (some (4:Int))=some ((4:Nat):Int) from rfl,HT.sIx_nat,HT.sIx_nat,List.length_take,List.length_drop]
 omega
def LS:Str:="abcdefghijklmnopqrs"
def PT:List Str:=(List.range 19).map fun i=>("p":Str)++sgn LS i
def bN (m a0:Nat):List Str:=(gh (a0:Int) 5 m).filterMap fun i=>(PT.take m)[i]?
theorem pt_ok (m:Nat)(h0:13≤m)(h1:m≤19):(PT.take m++[("h":Str)]).Nodup∧∀ x∈PT.take m++[("h":Str)],bD x=true∧x≠"none":=by
 have:∀ i:Fin 7,(PT.take (13+i.val)++[("h":Str)]).Nodup∧∀ x∈PT.take (13+i.val)++[("h":Str)],bD x=true∧x≠"none":=by decide +kernel
 have:=this ⟨m - 13,by omega⟩
 rw[show 13+(m - 13)=m by omega]at this
 exact this
theorem uJ (m a0:Nat)(h0:13≤m)(h1:m≤19)(h2:a0<3):(PT.take m).filter (fun x=>decide (x∈bN m a0))=bN m a0∧(bN m a0).length<8:=by
 have:∀ (i:Fin 7)(j:Fin 3),(PT.take (13+i.val)).filter (fun x=>decide (x∈bN (13+i.val) j.val))=bN (13+i.val) j.val∧(bN (13+i.val) j.val).length<8:=by decide +kernel
 have:=this ⟨m - 13,by omega⟩ ⟨a0,h2⟩
 rw[show 13+(m - 13)=m by omega]at this
 exact this
section
variable {P : Program}{w : World}{K : PySem.W.Frag}{mg : Str → Option Value}{base : Heap}
abbrev ff:Stmt:=top 49
theorem sc_Llong_net:am ["_law_cell","_law_script","_law_net_here","_law_names","_law_order","_law_listeners","_law_name","_law_ties","_law_k","_law_turn","_law_one","_law_other"] ["_law_cell","_law_script"] (ah ff):=⟨rfl,rfl,rfl,by decide +kernel,rfl,by decide +kernel,by decide +kernel⟩
theorem mE {c:Cl}{X:Xc}{Y:Xt}{f:Addr}{fd:FuncData} (F:Fun K "_law_long_net" "_law_long_net" ff f fd) (T:sL mg) (D_Net:Dk P w K mg base 1 "Net" c.net ["self"] (gR c))
  (D_Net_house:DmX P w K mg base 4 c.net "house" ["self","name"] (cE c X .house)) (D_Net_listener:DmX P w K mg base 4 c.net "listener" ["self","name"] (cE c X .listener)) (D_Net_post:DmX P w K mg base 4 c.net "post" ["self","name"] (cE c X .post))
  (D_Net_tied:uy P w K mg base 3 c.net "tie" ["self","one","other","delay"] [.int 1] (jv c Y)):FnOk P w K mg base CX0 5 f fd ["_law_cell","_law_script"] (fG K c):=by
 refine F.ok sc_Llong_net (fun vs H Q E h=>?_) (fun cdv A outer s H vs Q E hr h=>?_)
 ·obtain⟨z,a,cs,rfl,_⟩:=h
  rfl
 ·obtain⟨z,a,cs,rfl,ha,q⟩:=h
  have ND:=sc_Llong_net.nd
  refine⟨_,(ad (au (i:=2) ND rfl (by first|exact Or.inl rfl|exact Or.inr rfl) (kX D_Net (hr.mono (by decide)) rfl))
 (ad (au (i:=3) ND rfl (by first|exact Or.inl rfl|exact Or.inr rfl) (cA (mY K) (aO rfl (ao (nT:=1) (js:=[]) (N':=["_law_sign"]) rfl rfl (by kernel_rfl)) (tD bu)
  (fun _ _ _ _ _=>(ai (i:=0) (show List.Nodup (["_law_sign"]:List Str) by decide +kernel) rfl (by first|exact Or.inl rfl|exact Or.inr rfl)))
  (fun _ _ _ _ _=>aT)
  (fun _ _ _ _ _=>(ax pQ bu (pv 0)))) gW (bI (ax bS aj (ax aS (pv 0) aj)))))
 (ad (au (i:=4) ND rfl (by first|exact Or.inl rfl|exact Or.inr rfl) (ax jk (bi (a8 bu ae)) (pv 3)))
 (ad (au (i:=5) ND rfl (by first|exact Or.inl rfl|exact Or.inr rfl) (uX K (pv 3) (bI (ax aS (ax bQ (pv 0) aj) aj)) (bI aj)))
 (ad (bt PassesOwn.never rfl (cS K (pv 3)) (ai (i:=6) ND rfl (by first|exact Or.inl rfl|exact Or.inr rfl))
  (af (cf (av (inK K) (pv 6) (pv 5) (by with_unfolding_all rfl))
  (af (aF (bd cK (pv 2) D_Net_listener (hr.mono (by decide)) (a8 (pv 6) ae))))
  (af (aF (bd cK (pv 2) D_Net_post (hr.mono (by decide)) (a8 (pv 6) ae)))))))
 (ad (aF (bd cK (pv 2) D_Net_house (hr.mono (by decide)) (a8 bu ae)))
 (ad (au (i:=7) ND rfl (by first|exact Or.inl rfl|exact Or.inr rfl) (bi ae))
 (ad (bt PassesOwn.never rfl (bJ rfl T.n_range (a8 (aB (j6 K) rfl T.n_len boot_len (a8 (pv 3) ae)) ae)) (ai (i:=8) ND rfl (by first|exact Or.inl rfl|exact Or.inr rfl))
  (af (bt PassesOwn.never rfl (bJ rfl T.n_range (a8 aj ae)) (ai (i:=9) ND rfl (by first|exact Or.inl rfl|exact Or.inr rfl))
  (af (aF (bmK K PySem.F.plainAttrs_list PySem.F.slot_list_append PySem.F.type_list_append be (pv 7) (a8 (c6 (a8 (iA cK (pv 2) D_Net_tied (hr.mono (by decide)) (a8 (aV (cg K) (pv 4) (pv 8) (fun _ _=>rfl)) (a8 (aV (cg K) (pv 4) (ax bS (pv 8) aj) (fun _ _=>rfl)) ae))) (a8 (aV (cg K) (pv 4) (pv 8) (fun _ _=>rfl)) (a8 (aV (cg K) (pv 4) (ax bS (pv 8) aj) (fun _ _=>rfl)) ae)))) ae)))))))
 (ad (bt PassesOwn.never rfl (cS K (cA (mY K) (pv 1) (bI aj) (bI aj))) (ai (i:=0) ND rfl (by first|exact Or.inl rfl|exact Or.inr rfl))
  (ad (au (i:=10) ND rfl (by first|exact Or.inl rfl|exact Or.inr rfl) (ax aS (ax bQ (pv 0) aj) (aB (j6 K) rfl T.n_len boot_len (a8 (pv 4) ae))))
 (ad (au (i:=11) ND rfl (by first|exact Or.inl rfl|exact Or.inr rfl) (ax aS (pv 0) (aB (j6 K) rfl T.n_len boot_len (a8 (pv 4) ae))))
 (af (cf (av jK (pv 10) (pv 11) (aE _))
  (af (aF (bmK K PySem.F.plainAttrs_list PySem.F.slot_list_append PySem.F.type_list_append be (pv 7) (a8 (c6 (a8 (iA cK (pv 2) D_Net_tied (hr.mono (by decide)) (a8 (aV (cg K) (pv 4) (pv 10) (fun _ _=>rfl)) (a8 (aV (cg K) (pv 4) (pv 11) (fun _ _=>rfl)) ae))) (a8 (aV (cg K) (pv 4) (pv 10) (fun _ _=>rfl)) (a8 (aV (cg K) (pv 4) (pv 11) (fun _ _=>rfl)) ae)))) ae))))
  aH)))))
 (af (ay (c6 (a8 (pv 2) (a8 (pv 7) (a8 (pv 5) (a8 (pv 4) ae)))))))))))))))),?_⟩
  intro n dx hn hdx nd
  refine⟨n,dx,rfl,a9,fun dp dt H1 p1 p2 p3 b1 hi hp ht=>⟨rfl,?_⟩⟩
  have x1:dp≠n:=fun z=>by rw[z,a9]at p1;cases p1
  have x2:dt≠n:=fun z=>by rw[z,a9]at p2;cases p2
  have y1:dp≠dx:=fun z=>by rw[aa x1,z,a9]at p1;cases p1
  have y2:dt≠dx:=fun z=>by rw[aa x2,z,a9]at p2;cases p2
  have p1:H dp=none:=by rw[aa x1,aa y1]at p1;exact p1
  have p2:H dt=none:=by rw[aa x2,aa y2]at p2;exact p2
  have e1:Same H H1:=fun a o ha=>b1 a o (ag ha hn) (by rw[aa (ag ha hn),aa (ag ha hdx)];exact ha)
  have N1:NetAt c H1 n dp dt ⟨[],[],0⟩:=⟨⟨dx,hi⟩,⟨[],hp,.nil⟩,⟨[],ht,.nil⟩,p3⟩
  clear hp ht b1 hi
  have m0:0≤z % 7:=Int.emod_nonneg _ (by decide)
  have m1:z % 7<7:=Int.emod_lt_of_pos _ (by decide)
  obtain⟨m,em⟩:=Int.eq_ofNat_of_zero_le (show 0≤13+z % 7 by omega)
  have sz:LS.cps.size=19:=by decide +kernel
  refine⟨LS,rfl,lK (fun i=>.str (("p":Str)++sgn LS i)) (by rw[sz];decide) (fun i H2 hi e=>⟨_,rfl,_,_,rfl,rfl,?_,rfl,Same.refl _⟩) (fun L0 H2 h2 e2 hL0=>⟨_,rfl,_,_,rfl,rfl,(by show (0:Int)<7;decide),_,_,rfl,rfl,_,rfl,L0,_,rfl,SqL.of hL0,fun L1 H3 e3 h3 hL1=>?_⟩)⟩
  ·have:∀ i:Fin 19,("p":Str).length+(sgn LS i.val).length≤100:=by decide +kernel
   have:=this ⟨i,by omega⟩
   show ("p":Str).length+(sgn LS i).length≤2 ^ 24
   exact Nat.le_trans this (by decide)
  have l19:PT.length=19:=by unfold PT;simp
  have hL1':H3 L1=some (.lst ((PT.take m).map V.str)):=by
   rw[hL1,em,sz]
   show some (HO.lst (cm ((List.range 19).map fun i=>V.str (("p":Str)++sgn LS i)) none (some (m:Int))))=_
   rw[iK (by rw[List.length_map,List.length_range];omega),List.map_take]
   unfold PT
   rw[List.map_map]
   rfl
  obtain⟨nd0,ok0⟩:=pt_ok m (by omega) (by omega)
  have a00:0≤z / 7 % 3:=Int.emod_nonneg _ (by decide)
  have a01:z / 7 % 3<3:=Int.emod_lt_of_pos _ (by decide)
  obtain⟨a0,ea0⟩:=Int.eq_ofNat_of_zero_le a00
  obtain⟨st1,st2⟩:=uJ m a0 (by omega) (by omega) (by omega)
  have nml:(PT.take m).length=m:=by rw[List.length_take];omega
  have e03:=(e1.trans e2).trans e3
  have N3:=(N1.mono e2).mono e3
  refine⟨(by show 1≤sizeLine;decide),fun La H4 e4 h4 hLa=>⟨_,rfl,La,L1,_,_,rfl,rfl,hLa,e4 _ _ hL1',?_,fun lo H5 e5 h5 hlo=>?_⟩⟩
  ·rw[List.length_map,nml]
   show 1+m≤2 ^ 24
   omega
  have hlo':H5 lo=some (.lst ((("h":Str)::PT.take m).map V.str)):=hlo
  have stp:((gh (z / 7 % 3) 5 ((PT.take m).map V.str).length).filterMap fun i=>((PT.take m).map V.str)[i]?)=(bN m a0).map V.str:=by
   unfold bN
   rw[List.length_map,nml,ea0,List.map_filterMap]
   congr 1
   funext i
   rw[List.getElem?_map]
  refine⟨_,rfl,_,rfl,_,_,rfl,rfl,⟨by omega,by omega⟩,_,_,rfl,rfl,(by show (0:Int)<3;decide),_,rfl,_,rfl,_,_,L1,_,rfl,rfl,(by decide),rfl,SqL.of (e5 _ _ (e4 _ _ hL1')),?_,fun ll H6 e6 h6 hll=>?_⟩
  ·rw[stp,List.length_map]
   have e24:sizeLine=2 ^ 24:=rfl
   omega
  rw[stp]at hll
  have NN:Nms (PT.take m++[("h":Str)]):=⟨nd0,fun x hx=>(ok0 x hx).1,by rw[List.length_append,nml];simp;omega,fun z=>(ok0 _ z).2 rfl⟩
  have e06:=((e03.trans e4).trans e5).trans e6
  have N6:=((N3.mono e4).mono e5).mono e6
  have l6:=e6 _ _ (e5 _ _ (e4 _ _ hL1'))
  have lo6:=e6 _ _ hlo'
  have post:∀ {G:Hp}{ps:List (Str×Kd)}{i:Nat}{x:Str}{k:Kd},PB (PT.take m++[("h":Str)]) i ps→(PT.take m++[("h":Str)])[i]?=some x→(hrB k=false ↔ x=("h":Str))→NS.lis ⟨ps,[],0⟩=((PT.take m).take i).filter (fun x=>decide (x∈bN m a0))→(rdB k=true→x∈bN m a0∧i<m)→due X ⟨ps,[],0⟩ x k=none∧PB (PT.take m++[("h":Str)]) (i+1) (ps++[(x,k)])∧x.length≤1000:=fun {G ps i x k} hB ex hk hl hr'=>by
   refine hB.due (X:=X) NN ex hk fun _=>?_
   rw[hl]
   refine Nat.lt_of_le_of_lt ?_ st2
   conv=>rhs;rw[← st1]
   exact ((List.take_sublist _ _).filter _).length_le
  refine⟨_,rfl,L1,rfl,⟨_,SqL.of l6⟩,bE (K:=K) (xs:=(PT.take m).map V.str) (fun i σ G=>(∃ o6,σ=[some (.int z),some (.ref a),some (.ref n),some (.ref L1),some (.ref lo),some (.ref ll),o6,none,none,none,none,none])∧Same H G∧G L1=some (.lst ((PT.take m).map V.str))∧G lo=some (.lst ((("h":Str)::PT.take m).map V.str))∧G ll=some (.lst ((bN m a0).map V.str))∧∃ ps,PB (PT.take m++[("h":Str)]) i ps∧NetAt c G n dp dt ⟨ps,[],0⟩∧NS.lis ⟨ps,[],0⟩=((PT.take m).take i).filter (fun x=>decide (x∈bN m a0)))
   ⟨⟨none,rfl⟩,e06,l6,lo6,hll,[],PB.start _,N6,by rw[List.take_zero];rfl⟩ (fun i σ G _ h=>SqL.of h.2.2.1) ?_ ?_⟩
  ·rintro i v σ G ev ⟨⟨o6,rfl⟩,eG,lG,loG,llG,ps,hB,NG,hlis⟩
   obtain⟨x,ex,rfl⟩:=Option.map_eq_some_iff.mp (List.getElem?_map▸ev)
   have il:i<m:=by have:=(List.getElem?_eq_some_iff.mp ex).1;omega
   have ex':(PT.take m++[("h":Str)])[i]?=some x:=by rw[List.getElem?_append_left (by omega)];exact ex
   have xh:¬ x=("h":Str):=fun y=>by
    have h2:(PT.take m++[("h":Str)])[m]?=some x:=by rw[List.getElem?_append_right (by omega),nml,Nat.sub_self,y];rfl
    have:=b6 nd0 ex' h2
    omega
   have hk:∀ k,hrB k=true→(hrB k=false ↔ x=("h":Str)):=fun k h=>⟨fun y=>(by rw[h]at y;cases y),fun y=>absurd y xh⟩
   have pz:(NS.posts ⟨ps,[],0⟩).length≤1000:=by
    show ps.length≤1000
    rw[hB.len (by rw[List.length_append,nml];simp;omega)]
    omega
   obtain⟨dx1,hN1⟩:=id NG.ins
   obtain⟨kvp,hkp,_⟩:=id NG.posts
   have nd1:L1≠dp:=fun y=>by rw[← y,lG]at hkp;cases hkp
   have nd2:lo≠dp:=fun y=>by rw[← y,loG]at hkp;cases hkp
   have nd3:ll≠dp:=fun y=>by rw[← y,llG]at hkp;cases hkp
   have tk:(PT.take m).take (i+1)=(PT.take m).take i++[x]:=by rw[List.take_add_one,ex];rfl
   refine⟨_,fun σ' H' h=>h,⟨_,rfl,_,rfl,ll,_,rfl,.inl (SqL.of llG),rfl,fT _,_,rfl,?_⟩⟩
   rw[if_neg (by decide),fu]
   cases hin:decide (x∈bN m a0) with
   | true=>
    obtain⟨d1,a3,d3⟩:=post (G:=G) hB ex' (hk .listener rfl) hlis fun _=>⟨of_decide_eq_true hin,il⟩
    refine ci ⟨_,rfl,n,dx1,_,rfl,hN1,rfl,_,rfl,n,dp,dt,_,x,rfl,NG,d3,pz,fun r hr'=>absurd hr' (by rw[d1];exact fun z=>nomatch z),fun _ H' b' a4=>⟨⟨_,rfl⟩,fun y o hy=>b' y o (ag hy p1) (eG _ _ hy),b' _ _ nd1 lG,b' _ _ nd2 loG,b' _ _ nd3 llG,_,a3,a4,?_⟩⟩
    rw[fO,hlis,tk,List.filter_append]
    congr 1
    simp[rdB,List.filter,hin]
   | false=>
    obtain⟨d1,a3,d3⟩:=post (G:=G) hB ex' (hk .post rfl) hlis fun y=>nomatch y
    refine bv ⟨_,rfl,n,dx1,_,rfl,hN1,rfl,_,rfl,n,dp,dt,_,x,rfl,NG,d3,pz,fun r hr'=>absurd hr' (by rw[d1];exact fun z=>nomatch z),fun _ H' b' a4=>⟨⟨_,rfl⟩,fun y o hy=>b' y o (ag hy p1) (eG _ _ hy),b' _ _ nd1 lG,b' _ _ nd2 loG,b' _ _ nd3 llG,_,a3,a4,?_⟩⟩
    rw[fO,hlis,tk,List.filter_append]
    congr 1
    simp[rdB,List.filter,hin]
  ·rintro σ G ⟨⟨o6,rfl⟩,eG,lG,loG,llG,ps,hB,NG,hlis⟩
   rw[List.length_map,nml]at hB hlis
   have hlis:NS.lis ⟨ps,[],0⟩=bN m a0:=by rw[hlis,List.take_of_length_le (by omega),st1]
   obtain⟨dx1,hN1⟩:=id NG.ins
   obtain⟨kvp,hkp,_⟩:=id NG.posts
   have nd1:L1≠dp:=fun y=>by rw[← y,lG]at hkp;cases hkp
   have nd2:lo≠dp:=fun y=>by rw[← y,loG]at hkp;cases hkp
   have nd3:ll≠dp:=fun y=>by rw[← y,llG]at hkp;cases hkp
   have exh:(PT.take m++[("h":Str)])[m]?=some ("h":Str):=by rw[List.getElem?_append_right (by omega),nml,Nat.sub_self];rfl
   obtain⟨d1,a3,d3⟩:=hB.due (X:=X) NN exh (k:=.house) ⟨fun _=>rfl,fun _=>rfl⟩ (fun y=>nomatch y)
   have pz:(NS.posts ⟨ps,[],0⟩).length≤1000:=by
    show ps.length≤1000
    rw[hB.len (by rw[List.length_append,nml];simp)]
    omega
   refine⟨_,rfl,n,dx1,_,rfl,hN1,rfl,n,dp,dt,_,"h",rfl,NG,d3,pz,fun r hr'=>absurd hr' (by rw[d1];exact fun z=>nomatch z),fun _ G1 b1 NG1=>?_⟩
   have e1':Same H G1:=fun y o hy=>b1 y o (ag hy p1) (eG _ _ hy)
   have lG1:=b1 _ _ nd1 lG
   have loG1:=b1 _ _ nd2 loG
   have llG1:=b1 _ _ nd3 llG
   have X0:LX ⟨ps++[(("h":Str),Kd.house)],[],0⟩ (("h":Str)::PT.take m) []:=LX.first NN (by rw[List.length_append,nml];exact a3) (List.perm_append_singleton _ _) rfl
   have hS0:NS.lis ⟨ps++[(("h":Str),Kd.house)],[],0⟩=bN m a0:=by
    rw[fO,hlis]
    simp[rdB]
   have olen:(("h":Str)::PT.take m).length=m+1:=by rw[List.length_cons,nml]
   generalize ("h":Str)::PT.take m=ord at X0 loG1 olen
   refine⟨(by show 0≤sizeLine;decide),fun tl G2 e2' h2' htl=>?_⟩
   have e02:=e1'.trans e2'
   have ntl1:tl≠L1:=(ag lG1 h2').symm
   have ntl2:tl≠lo:=(ag loG1 h2').symm
   have ntl3:tl≠ll:=(ag llG1 h2').symm
   have tln:H tl=none:=e1'.free h2'
   have hlen1:(((PT.take m).map V.str).length:Int)=(m:Int):=by rw[List.length_map,nml]
   refine⟨_,rfl,L1,_,rfl,.inl (SqL.of (e2' _ _ lG1)),_,rfl,by omega,by omega,?_⟩
   rw[hlen1,Int.toNat_natCast]
   refine iI (lo:=0) (n:=m) (fun k σ G=>(∃ o6 o8 o9,σ=[some (.int z),some (.ref a),some (.ref n),some (.ref L1),some (.ref lo),some (.ref ll),o6,some (.ref tl),o8,o9,none,none])∧Same H G∧G lo=some (.lst (ord.map V.str))∧G ll=some (.lst ((bN m a0).map V.str))∧∃ S R,NetAt c G n dp dt S∧LX S ord R∧TiesS G tl R∧R.length=2 * k∧S.lis=bN m a0∧(∀ x,(aG R x).length≤2)∧(∀ r∈R,∃ v,v≤k∧ord[v]?=some r.2.2))
    ⟨⟨_,_,_,rfl⟩,e02,e2' _ _ loG1,e2' _ _ llG1,_,[],NG1.mono e2',X0,⟨[],htl,.nil⟩,rfl,hS0,fun x=>by simp[aG],fun r hr=>(List.not_mem_nil hr).elim⟩ ?_ ?_
   ·rintro k σ G3 hk ⟨⟨o6,o8,o9,rfl⟩,e3',loG3,llG3,S,R,N3',X3,T3,hR,hS,hin,hv⟩
    refine⟨_,rfl,by omega,by omega,iI (lo:=0) (n:=(2:Int).toNat) (fun t σ G=>(∃ o9,σ=[some (.int z),some (.ref a),some (.ref n),some (.ref L1),some (.ref lo),some (.ref ll),o6,some (.ref tl),some (.int (0+(k:Int))),o9,none,none])∧Same H G∧G lo=some (.lst (ord.map V.str))∧G ll=some (.lst ((bN m a0).map V.str))∧∃ S R,NetAt c G n dp dt S∧LX S ord R∧TiesS G tl R∧R.length=2 * k+t∧S.lis=bN m a0∧(∀ x,ord[k+1]?≠some x→(aG R x).length≤2)∧(∀ x,ord[k+1]?=some x→(aG R x).length≤t)∧(∀ r∈R,∃ v,v≤k+1∧ord[v]?=some r.2.2))
     ⟨⟨_,rfl⟩,e3',loG3,llG3,S,R,N3',X3,T3,hR,hS,fun x _=>hin x,fun x hx=>?_,fun r hr=>let ⟨v,a1,a2⟩:=hv r hr;⟨v,by omega,a2⟩⟩ ?_ ?_⟩
    ·unfold aG
     rw[List.filter_eq_nil_iff.mpr fun r hr y=>?_]
     ·exact Nat.le_refl _
     ·obtain⟨v,a1,a2⟩:=hv r hr
      rw[of_decide_eq_true y]at a2
      have:=b6 X3.ln.nd a2 hx
      omega
    ·clear hR hS hin hv X3 T3 N3' e3' loG3 llG3 R S
     rintro t σ H8 ht ⟨⟨o9',rfl⟩,e08,hl8,ll8,S,R,N8,X7,T7,hR,hS7,hin,hin1,hv⟩
     have ht:t<2:=ht
     have hu:k<ord.length:=by omega
     have hvv:k+1<ord.length:=by omega
     obtain⟨dx8,hN8⟩:=id N8.ins
     obtain⟨ts8,htl8,hp8⟩:=T7
     have a1:atI (ord.map V.str) (0+(k:Int))=some (.str (ord[k]'hu)):=by rw[Int.zero_add];exact bc (by rw[List.getElem?_map,List.getElem?_eq_getElem hu];rfl)
     have a2:atI (ord.map V.str) (0+(k:Int)+1)=some (.str (ord[k+1]'hvv)):=by rw[Int.zero_add];exact bc (j:=k+1) (by rw[List.getElem?_map,List.getElem?_eq_getElem hvv];rfl)
     have isd:cy 1=true:=by decide
     obtain⟨f1,f2,k1,k2,tlen,tnum⟩:=X7.free (Nat.lt_succ_self k) (List.getElem?_eq_getElem hu) (List.getElem?_eq_getElem hvv)
     refine⟨_,rfl,.inl ⟨rfl,_,SqL.of htl8⟩,_,rfl,n,dx8,_,rfl,hN8,rfl,_,rfl,_,rfl,lo,_,_,_,rfl,rfl,SqL.of hl8,a1,_,rfl,_,rfl,_,_,rfl,rfl,lo,_,_,_,rfl,rfl,SqL.of hl8,a2,?_⟩
     refine⟨n,dp,dt,S,ord[k],ord[k+1],1,rfl,N8,f1,f2,by omega,tnum,fun y=>?_,fun _ y=>absurd y k2,fun _ _ y=>?_,fun _ _ _ y=>?_,fun _ _ _ _ H9 b9 N9=>?_⟩
     ·rw[k1]at y;cases y
     ·rw[isd]at y;cases y
     ·omega
     have hn8:=hN8
     obtain⟨kt8,hd8,_⟩:=N8.ties
     have keepL:∀ {b:Addr}{xs:List V},H8 b=some (.lst xs)→H9 b=some (.lst xs):=fun {b xs} hb=>b9 _ _ (bb hb hn8 (fun z=>nomatch z)) (bb hb hd8 (fun z=>nomatch z)) hb
     have T9:TiesS H9 tl R:=TiesS.but N8 b9 ⟨ts8,htl8,hp8⟩
     refine⟨_,rfl,_,rfl,lo,_,_,_,rfl,rfl,SqL.of (keepL hl8),a1,_,rfl,_,rfl,_,_,rfl,rfl,lo,_,_,_,rfl,rfl,SqL.of (keepL hl8),a2,(by show 3≤sizeLine;decide),fun T' H10 e10 h10 hT=>?_⟩
     obtain⟨ts10,htl10,hp10⟩:=T9.mono e10
     have tsl:ts10.length=R.length:=Paired.length hp10
     refine⟨tl,ts10,_,rfl,rfl,htl10,(by rw[tsl];have:sizeLine=2 ^ 24:=rfl;omega),⟨_,rfl⟩,?_,?_,?_,_,R++[(S.next,ord[k],ord[k+1])],(N9.mono e10).updL htl10,X7.step (by omega) (Nat.lt_succ_self k) (List.getElem?_eq_getElem hu) (List.getElem?_eq_getElem hvv),TiesS.snoc htl10 hp10 hT,by rw[List.length_append,List.length_singleton];omega,hS7,fun x hx=>?_,fun x hx=>?_,fun r hr=>?_⟩
     ·exact aw (fun b o hb=>e10 _ _ (b9 _ _ (ag hb hn) (ag hb p2) (e08 _ _ hb))) tln
     ·rw[aa ntl2.symm];exact e10 _ _ (keepL hl8)
     ·rw[aa ntl3.symm];exact e10 _ _ (keepL ll8)
     ·rw[iH,if_neg (fun y=>hx (by rw[List.getElem?_eq_getElem hvv];exact congrArg some y))]
      exact hin x hx
     ·rw[iH]
      have:=hin1 x hx
      by_cases c0:ord[k+1]=x
      ·rw[if_pos c0];omega
      ·rw[if_neg c0];omega
     ·rcases List.mem_append.mp hr with y|y
      ·exact hv r y
      ·rw[List.mem_singleton.mp y]
       exact⟨k+1,Nat.le_refl _,List.getElem?_eq_getElem hvv⟩
    ·rintro σ G4 ⟨⟨o9',rfl⟩,e4',lo4,ll4,S4,R4,N4,X4,T4,hR4,hS4,hin4,hin41,hv4⟩
     refine⟨⟨_,_,_,rfl⟩,e4',lo4,ll4,S4,R4,N4,X4,T4,by rw[hR4];show 2 * k+2=2 * (k+1);omega,hS4,fun x=>?_,hv4⟩
     by_cases c0:ord[k+1]?=some x
     ·exact hin41 x c0
     ·exact hin4 x c0
   ·rintro σ G3 ⟨⟨o6,o8,o9,rfl⟩,e3',loG3,llG3,S3,R3,N3',X3,T3,hR3,hS3,hin3,_⟩
    refine⟨_,rfl,_,rfl,_,rfl,a,_,rfl,sqm ha e3',fun L G5 e5' h5' hL=>?_⟩
    have nL1:L≠tl:=fun y=>by
     obtain⟨_,q1,_⟩:=T3
     rw[y,q1]at h5'
     cases h5'
    refine⟨L,rfl,⟨_,SqL.of hL⟩,bE (K:=K) (a:=L) (xs:=cm (cs.map V.int) (some 2) (some 4)) (fun i σ H'=>(∃ o0 o6 o8 o9 o10 o11,σ=[o0,some (.ref a),some (.ref n),some (.ref L1),some (.ref lo),some (.ref ll),o6,some (.ref tl),o8,o9,o10,o11])∧Same H H'∧H' L=some (.lst (cm (cs.map V.int) (some 2) (some 4)))∧H' lo=some (.lst (ord.map V.str))∧H' ll=some (.lst ((bN m a0).map V.str))∧∃ S R,NetAt c H' n dp dt S∧LX S ord R∧TiesS H' tl R∧R.length≤38+i∧S.lis=bN m a0∧∀ x,(aG R x).length≤2+i)
     ⟨⟨_,_,_,_,_,_,rfl⟩,e3'.trans e5',hL,e5' _ _ loG3,e5' _ _ llG3,S3,R3,N3'.mono e5',X3,T3.mono e5',by omega,hS3,hin3⟩ (fun i σ H' _ h=>SqL.of h.2.2.1) ?_ ?_⟩
    ·rintro i v σ H8 ev ⟨⟨o0,o6',o8',o9',o10,o11,rfl⟩,e08,hL7,hl8,ll8,S,R,N8,X7,T7,hR,hS7,hin⟩
     obtain⟨cell,_,rfl⟩:=List.mem_map.mp (mM (List.mem_of_getElem? ev))
     have hi2:i<2:=Nat.lt_of_lt_of_le (List.getElem?_eq_some_iff.mp ev).1 (rp _)
     have lpos:(0:Int)<((ord.map V.str).length:Int):=by rw[List.length_map];omega
     refine⟨_,rfl,_,_,rfl,rfl,⟨by omega,by omega⟩,_,rfl,lo,_,rfl,.inl (SqL.of hl8),_,_,rfl,rfl,lpos,?_⟩
     refine⟨_,rfl,_,rfl,lo,_,rfl,.inl (SqL.of hl8),_,_,rfl,rfl,lpos,?_⟩
     have modn:∀ r:Int,∃ u:Nat,r % ((ord.map V.str).length:Int)=(u:Int)∧u<ord.length:=fun r=>by
      have r0:0≤r % ((ord.map V.str).length:Int):=Int.emod_nonneg _ (by omega)
      have r1:r % ((ord.map V.str).length:Int)<((ord.map V.str).length:Int):=Int.emod_lt_of_pos _ lpos
      obtain⟨u,eu⟩:=Int.eq_ofNat_of_zero_le r0
      refine⟨u,eu,?_⟩
      rw[eu,List.length_map]at r1
      omega
     obtain⟨u,eu,hu⟩:=modn (cell / 20)
     obtain⟨v,ev',hvv⟩:=modn cell
     refine⟨_,fun σ' H' h=>h,?_⟩
     refine⟨_,rfl,_,rfl,_,_,rfl,rfl,_,rfl,bT (fun g=>?_) (fun g=>?_)⟩
     ·have g:=of_decide_eq_true g
      have guv:u<v:=by
       have g:cell / 20 % ((ord.map V.str).length:Int)<cell % ((ord.map V.str).length:Int):=g
       rw[eu,ev']at g
       omega
      obtain⟨dx8,hN8⟩:=id N8.ins
      obtain⟨ts8,htl8,hp8⟩:=T7
      have a1:atI (ord.map V.str) (cell / 20 % ((ord.map V.str).length:Int))=some (.str (ord[u]'hu)):=by rw[eu];exact bc (by rw[List.getElem?_map,List.getElem?_eq_getElem hu];rfl)
      have a2:atI (ord.map V.str) (cell % ((ord.map V.str).length:Int))=some (.str (ord[v]'hvv)):=by rw[ev'];exact bc (by rw[List.getElem?_map,List.getElem?_eq_getElem hvv];rfl)
      have isd:cy 1=true:=by decide
      obtain⟨f1,f2,k1,k2,tlen,tnum⟩:=X7.free guv (List.getElem?_eq_getElem hu) (List.getElem?_eq_getElem hvv)
      refine⟨_,rfl,.inl ⟨rfl,_,SqL.of htl8⟩,_,rfl,n,dx8,_,rfl,hN8,rfl,_,rfl,_,rfl,lo,_,_,_,rfl,rfl,SqL.of hl8,a1,_,rfl,_,rfl,lo,_,_,_,rfl,rfl,SqL.of hl8,a2,?_⟩
      refine⟨n,dp,dt,S,ord[u],ord[v],1,rfl,N8,f1,f2,by omega,tnum,fun y=>?_,fun _ y=>absurd y k2,fun _ _ y=>?_,fun _ _ _ y=>?_,fun _ _ _ _ H9 b9 N9=>?_⟩
      ·rw[k1]at y;cases y
      ·rw[isd]at y;cases y
      ·omega
      have hn8:=hN8
      obtain⟨kt8,hd8,_⟩:=N8.ties
      have keepL:∀ {b:Addr}{xs:List V},H8 b=some (.lst xs)→H9 b=some (.lst xs):=fun {b xs} hb=>b9 _ _ (bb hb hn8 (fun z=>nomatch z)) (bb hb hd8 (fun z=>nomatch z)) hb
      have T9:TiesS H9 tl R:=TiesS.but N8 b9 ⟨ts8,htl8,hp8⟩
      refine⟨_,rfl,_,rfl,lo,_,_,_,rfl,rfl,SqL.of (keepL hl8),a1,_,rfl,_,rfl,lo,_,_,_,rfl,rfl,SqL.of (keepL hl8),a2,(by show 3≤sizeLine;decide),fun T' H10 e10 h10 hT=>?_⟩
      obtain⟨ts10,htl10,hp10⟩:=T9.mono e10
      have tsl:ts10.length=R.length:=Paired.length hp10
      refine⟨tl,ts10,_,rfl,rfl,htl10,(by rw[tsl];have:sizeLine=2 ^ 24:=rfl;omega),⟨_,_,_,_,_,_,rfl⟩,?_,?_,?_,?_,_,R++[(S.next,ord[u],ord[v])],(N9.mono e10).updL htl10,X7.step (by omega) guv (List.getElem?_eq_getElem hu) (List.getElem?_eq_getElem hvv),TiesS.snoc htl10 hp10 hT,by rw[List.length_append,List.length_singleton];omega,hS7,fun x=>?_⟩
      ·exact aw (fun b o hb=>e10 _ _ (b9 _ _ (ag hb hn) (ag hb p2) (e08 _ _ hb))) tln
      ·rw[aa nL1];exact e10 _ _ (keepL hL7)
      ·rw[aa ntl2.symm];exact e10 _ _ (keepL hl8)
      ·rw[aa ntl3.symm];exact e10 _ _ (keepL ll8)
      ·rw[iH]
       have:=hin x
       by_cases c0:ord[v]=x
       ·rw[if_pos c0];omega
       ·rw[if_neg c0];omega
     ·exact⟨⟨_,_,_,_,_,_,rfl⟩,e08,hL7,hl8,ll8,S,R,N8,X7,T7,by omega,hS7,fun x=>by have:=hin x;omega⟩
    ·rintro σ H7 ⟨⟨o0,o6',o8',o9',o10,o11,rfl⟩,e7,hL7,hl7,ll7,S,R,N7,X7,T7,hR,hS7,hin⟩
     have c2:=rp (cs.map V.int)
     exact⟨_,rfl,_,rfl,_,rfl,_,rfl,(by show 4≤sizeLine;decide),fun t H8 e8 h8 ht=>q t n tl ll lo dp dt H8 S ord R (e7.trans e8) (e7.free h8) ht (N7.mono e8) (T7.mono e8) (by rw[hS7];exact e8 _ _ ll7) (e8 _ _ hl7) X7 fun x=>by
      have:=hin x
      omega⟩
end
end K42
namespace L2
open PySem
theorem u8 {A:Around}{k:Nat} (hr:Room k A):A.units+(0+1+1)<cLine:=by
 have:=hr.un
 omega
end L2
namespace K42
open PySem L2
theorem rU (i:Int)(h0:0≤i)(h8:i<8):∃ p:Int,atI [V.int 2,V.int 3,V.int 5,V.int 7,V.int 13,V.int 101,V.int 999983,V.int 2] i=some (.int p)∧My.isP p=true∧0<p∧p≤1000000:=by
 obtain⟨v,hv,ha⟩:=uu (xs:=[V.int 2,V.int 3,V.int 5,V.int 7,V.int 13,V.int 101,V.int 999983,V.int 2]) h0 h8
 have:=List.mem_of_getElem? hv
 simp only[List.mem_cons,List.not_mem_nil,or_false]at this
 rcases this with rfl|rfl|rfl|rfl|rfl|rfl|rfl|rfl
 ·exact⟨_,ha,My.isP_chk (p:=2) (by decide +kernel) (by decide),by decide,by decide⟩
 ·exact⟨_,ha,My.isP_chk (p:=3) (by decide +kernel) (by decide),by decide,by decide⟩
 ·exact⟨_,ha,My.isP_chk (p:=5) (by decide +kernel) (by decide),by decide,by decide⟩
 ·exact⟨_,ha,My.isP_chk (p:=7) (by decide +kernel) (by decide),by decide,by decide⟩
 ·exact⟨_,ha,My.isP_chk (p:=13) (by decide +kernel) (by decide),by decide,by decide⟩
 ·exact⟨_,ha,My.isP_chk (p:=101) (by decide +kernel) (by decide),by decide,by decide⟩
 ·exact⟨_,ha,My.last_prime,by decide,by decide⟩
 ·exact⟨_,ha,My.isP_chk (p:=2) (by decide +kernel) (by decide),by decide,by decide⟩
def i0 (rows:List aK):List (Key×List Int):=rows.map fun r=>((Sum.inl r.1:Key),r.2.2)
def i3 (cs:Cs):List (Key×Int):=cs.map fun r=>((Sum.inl r.1:Key),r.2)
theorem fi {α β γ:Type}{F:α→β→Prop} (f:γ→α) (g:γ→β):∀ zs:List γ,(∀ z∈zs,F (f z) (g z))→Paired F (zs.map f) (zs.map g)
 | [],_=>.nil
 | z::zs,h=>.cons (h z (by simp)) (fi f g zs fun y hy=>h y (by simp[hy]))
theorem PlanAt.ds {K:PySem.W.Frag}{H:Hp}{d:Addr}{rows:List aK} (h:PlanAt H d rows):sw (j7 K isI) H (.ref d) (i0 rows):=
 ⟨d,aU rows,rfl,h.dict,fi _ _ rows fun r hr=>⟨rfl,eD (h.row r hr)⟩⟩
theorem cs_ds {H:Hp}{d:Addr}{cs:Cs} (h:H d=some (.dK (csD cs))):sw isI H (.ref d) (i3 cs):=
 ⟨d,csD cs,rfl,h,fi _ _ cs fun r _=>⟨rfl,rfl⟩⟩
theorem sk (rows:List aK)(n:Int):look (i0 rows) (Sum.inl n)=(bA rows n).map (·.2.2):=by
 unfold look i0 bA
 induction rows with
 | nil=>rfl
 | cons x ws ih=>
  rw[List.map_cons,List.find?_cons,List.find?_cons]
  by_cases h:x.1=n
  ·rw[decide_eq_true h,decide_eq_true (show (Sum.inl x.1:Key)=Sum.inl n by rw[h])]
   rfl
  ·rw[decide_eq_false h,decide_eq_false (show ¬ (Sum.inl x.1:Key)=Sum.inl n from fun z=>h (Sum.inl.inj z))]
   exact ih
theorem vf (cs:Cs)(n:Int):look (i3 cs) (Sum.inl n)=aW cs n:=by
 unfold look i3 aW
 induction cs with
 | nil=>rfl
 | cons x ws ih=>
  rw[List.map_cons,List.find?_cons,List.find?_cons]
  by_cases h:x.1=n
  ·rw[decide_eq_true h,decide_eq_true (show (Sum.inl x.1:Key)=Sum.inl n by rw[h])]
   rfl
  ·rw[decide_eq_false h,decide_eq_false (show ¬ (Sum.inl x.1:Key)=Sum.inl n from fun z=>h (Sum.inl.inj z))]
   exact ih
theorem iP:∀ {l1 l2:List Int},l1.Nodup→l2.Nodup→(∀ x,x∈l1 ↔ x∈l2)→l1.Perm l2
 | [],l2,_,_,h=>by
  cases l2 with
  | nil=>exact .nil
  | cons a r=>exact absurd ((h a).mpr (by simp)) (by simp)
 | a::l1,l2,n1,n2,h=>by
  have n1:=List.nodup_cons.mp n1
  have ha:a∈l2:=(h a).mp (by simp)
  refine (List.Perm.cons a (iP n1.2 (n2.erase a) fun x=>?_)).trans (List.perm_cons_erase ha).symm
  rw[List.Nodup.mem_erase_iff n2]
  constructor
  ·intro hx
   exact⟨fun z=>n1.1 (z▸hx),(h x).mp (by simp[hx])⟩
  ·rintro⟨hne,hx⟩
   rcases List.mem_cons.mp ((h x).mpr hx) with z|z
   ·exact absurd z hne
   ·exact z
theorem cover {α β:Type}{F:α→β→Prop}:∀ zs:List α,(∀ z∈zs,∃ y,F z y)→∃ rs,Paired F zs rs
 | [],_=>⟨[],.nil⟩
 | z::zs,h=>by
  obtain⟨y,hy⟩:=h z (by simp)
  obtain⟨rs,hr⟩:=cover zs fun u hu=>h u (by simp[hu])
  exact⟨y::rs,.cons hy hr⟩
theorem vC (xs:List V)(lo hi:Option Int):(cm xs lo hi).length≤xs.length:=by
 unfold cm
 rw[List.length_take,List.length_drop]
 omega
structure Lw (p : Int) (many : Nat) (rows : List aK) (fo : Option (List Int)) (R : List LT) (rs : List aK) : Prop where
  lr : LawRows p many rows fo R (bp rs)
  ks : (rs.map (·.1)).Perm (R.map (·.1))
  nd : (rs.map (·.1)).Nodup
section
variable {p : Int}{many : Nat}{rows : List aK}{fo : Option (List Int)}{R : List LT}{ord : List Str}{S : NS}{rs : List aK}
theorem RI.lw (O:LN S ord R)(h:RI p many rows fo R ord ord.length 0 rs):Lw p many rows fo R rs:=
 ⟨(h.law O).1,iP h.nd (O.asc.imp fun z=>Int.ne_of_lt z) (h.law O).2,h.nd⟩
theorem Lw.none (h:Lw p many rows (some []) R rs):Lw p many rows none R rs:=⟨h.lr.none,h.ks,h.nd⟩
theorem Lw.at (h:Lw p many rows fo R rs){k:Int}(hk:k∈R.map (·.1)):∃ y∈rs,y.1=k∧bA rs k=some y∧bp rs k=y.2.2:=by
 obtain⟨y,hy,rfl⟩:=List.mem_map.mp (h.ks.mem_iff.mpr hk)
 have:=bo h.nd y hy
 exact⟨y,hy,rfl,this,by unfold bp;rw[this];rfl⟩
theorem Lw.len (h:Lw p many rows fo R rs):rs.length=R.length:=by
 have:=h.ks.length_eq
 rw[List.length_map,List.length_map]at this
 exact this
theorem Lw.row (h:Lw p many rows fo R rs):∀ y∈rs,y.2.2.length=many∧InF p y.2.2:=fun y hy=>by
 have hk:y.1∈R.map (·.1):=h.ks.mem_iff.mp (List.mem_map_of_mem hy)
 obtain⟨r,hr,e⟩:=List.mem_map.mp hk
 have h1:=bo h.nd y hy
 have h2:bp rs r.1=y.2.2:=by unfold bp;rw[e,h1];rfl
 rw[← h2]
 exact⟨h.lr.len r hr,h.lr.fit r hr⟩
theorem Lw.told (O:LN S ord R)(h:Lw p many rows fo R rs){rs1:List aK}(pm:(rs1.map fun r=>(r.1,r.2.2)).Perm ((aq S).map fun m=>(m.1,de p rows fo (aq S) many m.1))):iM (i0 rs1) (i0 rs)=true∧(rs1.map (·.1)).Perm (rs.map (·.1)):=by
 have k1:(rs1.map (·.1)).Perm (R.map (·.1)):=by
  have:=pm.map Prod.fst
  rw[List.map_map,List.map_map]at this
  exact this.trans O.keys
 have hk:=k1.trans h.ks.symm
 refine⟨?_,hk⟩
 unfold iM
 rw[Bool.and_eq_true,List.all_eq_true]
 refine⟨?_,fun d hd=>?_⟩
 ·have:=hk.length_eq
  rw[List.length_map,List.length_map]at this
  unfold i0
  rw[List.length_map,List.length_map,this]
  exact beq_self_eq_true _
 ·unfold i0 at hd
  obtain⟨r,hr,rfl⟩:=List.mem_map.mp hd
  rw[decide_eq_true_eq,sk]
  obtain⟨m,hm,em⟩:=List.mem_map.mp (pm.mem_iff.mp (List.mem_map_of_mem (f:=fun r:aK=>(r.1,r.2.2)) hr))
  have e1:m.1=r.1:=congrArg Prod.fst em
  have e2:de p rows fo (aq S) many m.1=r.2.2:=congrArg Prod.snd em
  have rk:r.1∈R.map (·.1):=k1.mem_iff.mp (List.mem_map_of_mem hr)
  obtain⟨t,ht,et⟩:=List.mem_map.mp rk
  obtain⟨y,hy,_,yi,yf⟩:=h.at rk
  show Option.map _ (bA rs r.1)=some r.2.2
  rw[yi]
  show some y.2.2=some r.2.2
  rw[← yf,← e2,e1,← et,O.col h.lr ht]
def eI (p:Int)(msg:List Int)(rs:List aK):Cs:=rs.map fun r=>(r.1,Mx.dot r.2.2 msg % p)
theorem sI (msg:List Int)(nd:(rs.map (·.1)).Nodup){y:aK}(hy:y∈rs):aW (eI p msg rs) y.1=some (Mx.dot y.2.2 msg % p):=
 hV (cs:=eI p msg rs) (r:=(y.1,Mx.dot y.2.2 msg % p)) (by unfold eI;rw[List.map_map];exact nd) (List.mem_map_of_mem (f:=fun r:aK=>(r.1,Mx.dot r.2.2 msg % p)) hy)
theorem Lw.sent (O:LN S ord R)(h:Lw p many rows fo R rs)(msg:List Int){cs:Cs}(pm:cs.Perm (aR p rows msg fo (aq S) [])):iM (i3 cs) (i3 (eI p msg rs))=true∧(cs.map (·.1)).Perm ((eI p msg rs).map (·.1)):=by
 have ck:=cj p rows msg fo (aq S) []
 rw[List.map_nil,List.nil_append]at ck
 have k1:(cs.map (·.1)).Perm (R.map (·.1)):=by
  have:=pm.map Prod.fst
  rw[ck]at this
  exact this.trans O.keys
 have ce:(eI p msg rs).map (·.1)=rs.map (·.1):=by unfold eI;rw[List.map_map];rfl
 have hk:(cs.map (·.1)).Perm ((eI p msg rs).map (·.1)):=by rw[ce];exact k1.trans h.ks.symm
 refine⟨?_,hk⟩
 unfold iM
 rw[Bool.and_eq_true,List.all_eq_true]
 refine⟨?_,fun d hd=>?_⟩
 ·have:=hk.length_eq
  rw[List.length_map,List.length_map]at this
  unfold i3
  rw[List.length_map,List.length_map,this]
  exact beq_self_eq_true _
 ·unfold i3 at hd
  obtain⟨r,hr,rfl⟩:=List.mem_map.mp hd
  rw[decide_eq_true_eq,vf]
  have rk:r.1∈R.map (·.1):=k1.mem_iff.mp (List.mem_map_of_mem hr)
  obtain⟨t,ht,et⟩:=List.mem_map.mp rk
  obtain⟨y,hy,ye,_,yf⟩:=h.at rk
  have fnd:((aR p rows msg fo (aq S) []).map (·.1)).Nodup:=by rw[ck];exact O.fits.nd
  have l1:=hV fnd (pm.mem_iff.mp hr)
  have l2:=O.flow' h.lr msg ht
  have et':t.1=r.1:=et
  rw[et',l1]at l2
  show aW (eI p msg rs) r.1=some r.2
  rw[← ye,sI msg h.nd hy,l2,yf]
theorem Lw.heard (O:LN S ord R)(h:Lw p many rows fo R rs)(g:Str):(S.into g).map (fun k=>de p rows fo (aq S) many k)=(aG R g).map (bp rs):=by
 rw[O.into]
 refine List.map_congr_left fun k hk=>?_
 unfold aG at hk
 obtain⟨r,hr,rfl⟩:=List.mem_map.mp hk
 exact O.col h.lr (List.mem_filter.mp hr).1
theorem k6 (g:Str):∀ k∈aG R g,k∈R.map (·.1):=fun k hk=>by
 unfold aG at hk
 obtain⟨r,hr,rfl⟩:=List.mem_map.mp hk
 exact List.mem_map_of_mem (List.mem_filter.mp hr).1
theorem car_ok {c:Cl}{H:Hp}{n dp dt d:Addr}{x:V} (N:NetAt c H n dp dt S) (X:LX S ord R) (pl:PlanAt H d rows) (pr:Paired (lR p many R) rows R) (hm:many≤14) (hin:∀ x,(aG R x).length≤14) (p1:p≤1000000) (pP:My.isP p=true) (fal:MixW H x fo) (falz:∀ ks,fo=some ks→ks.length≤1000):CarOk c H n dp dt S d x p rows fo where
 net:=N
 ac:=X.ln.acyc
 ends:=X.ln.ends
 tz:=by
  have:=congrArg List.length X.ln.ties
  rw[List.length_map]at this
  have:=X.ln.rlen
  omega
 pz:=by
  have:=X.ln.names.length_eq
  unfold NS.names at this
  rw[List.length_map]at this
  have:=X.ln.len
  omega
 fits:=X.ln.fits
 few:=X.ln.few
 p1:=p1
 prime:=pP
 plan:=pl
 has:=fun r hr=>by
  have rk:r.1∈R.map (·.1):=X.ln.keys.mem_iff.mp (List.mem_map_of_mem hr)
  obtain⟨t,ht,et⟩:=List.mem_map.mp rk
  obtain⟨j,hj,ej⟩:=List.getElem_of_mem ht
  have jl:j<rows.length:=by rw[Paired.length pr];exact hj
  obtain⟨t',et',h1,h2,h3⟩:=Paired.at pr (List.getElem?_eq_getElem jl)
  rw[List.getElem?_eq_getElem hj,ej]at et'
  cases et'
  have pkeys:rows.map (·.1)=R.map (·.1):=by
   have:∀ {ys:List aK}{rr:List LT},Paired (lR p many R) ys rr→ys.map (·.1)=rr.map (·.1):=fun {ys rr} h=>by
    induction h with
    | nil=>rfl
    | cons a _ ih=>rw[List.map_cons,List.map_cons,a.1,ih]
   exact this pr
  have nd:(rows.map (·.1)).Nodup:=pkeys▸(X.ln.asc.imp fun z=>Int.ne_of_lt z)
  have ri:=bo nd _ (List.getElem_mem jl)
  have e1:(rows[j]'jl).1=r.1:=h1.trans et
  refine⟨_,by rw[← e1];exact ri,h2,?_⟩
  rw[h3]
  unfold eM
  by_cases c0:t.2.1=("h":Str)
  ·rw[if_pos c0];omega
  ·rw[if_neg c0];have:=hin t.2.1;omega
 fal:=fal
 falz:=falz
theorem LX.noh (X:LX S ord R):¬ ("h":Str)∈S.lis:=fun z=>by
 unfold NS.lis at z
 obtain⟨q,hq,e⟩:=List.mem_map.mp z
 obtain⟨h1,h2⟩:=List.mem_filter.mp hq
 have h3:=X.lih q h1 e
 obtain⟨nm,k⟩:=q
 cases k
 ·cases h2
 ·cases h3
 ·cases h2
theorem LX.sub (X:LX S ord R){g:Str}(h:g∈S.lis):g∈S.names:=by
 unfold NS.lis at h
 obtain⟨q,hq,rfl⟩:=List.mem_map.mp h
 exact List.mem_map_of_mem (List.mem_filter.mp hq).1
theorem LX.nono (X:LX S ord R):¬ ("none":Str)∈S.lis:=fun z=>X.non (X.ln.names.mem_iff.mp (X.sub z))
theorem LX.heard (X:LX S ord R){g:Str}:∀ k∈S.into g,k∈(aq S).map (·.1):=fun k hk=>by
 rw[X.ln.into]at hk
 exact X.ln.keys.mem_iff.mpr (k6 g k hk)
end
end K42
namespace K42
open PySem L2
open PyProof.Rows (boot_list boot_int boot_bool boot_tuple boot_str boot_dict boot_all boot_sorted boot_set)
structure TxtQ (mg : Str → Option Value) : Prop where
  n_range : mg "range" = none
  n_list : mg "list" = none
  n_sorted : mg "sorted" = none
  n_isinstance : mg "isinstance" = none
  n_dict : mg "dict" = none
  n_set : mg "set" = none
  n_sum : mg "sum" = none
section
variable {P : Program}{w : World}{K : PySem.W.Frag}{mg : Str → Option Value}{base : Heap}
def lV (K:PySem.W.Frag):Sp:=fun vs H Q _=>∃ (a:Addr)(ns:List Int),vs=[.ref a]∧SqL K H a (ns.map V.int)∧ns.length≤63∧∀ H',Q (.bl true) H'
abbrev t4:Stmt:=top 54
theorem sc_law:am ["_law_script","_law_cell","_law_net_here","_law_ties","_law_listeners","_law_order","_law_prime","_law_many","_law_xs","_law_plan_here","_law_fallen","_law_told","_law_rows_here","_law_message","_law_carries","_law_number","_law_row","_law_found","_law_name"] ["_law_script"] (ah t4):=⟨rfl,rfl,rfl,by decide +kernel,rfl,by decide +kernel,by decide +kernel⟩
theorem ok_law {c:Cl}{NP:Addr}{f:Addr}{fd:FuncData} (F:Fun K "law" "law" t4 f fd) (T:TxtQ mg) (TD:PySem.W.kitOne K (.type "dict") (.type "dict")=some true)
  (D_Lcell_at:Df P w K mg base 1 "_law_cell_at" ["_law_script","_law_k"] (eY K)) (D_Lstream:Df P w K mg base 1 "_law_stream" ["_law_cell","_law_many"] cX) (D_Lnet:Df P w K mg base 5 "_law_net" ["_law_cell","_law_script"] (fG K c)) (D_Llong_net:Df P w K mg base 5 "_law_long_net" ["_law_cell","_law_script"] (fG K c))
  (D_Linto:Df P w K mg base 1 "_law_into" ["_law_ties","_law_name"] eX) (D_Lplan:Df P w K mg base 2 "_law_plan" ["_law_ties","_law_many","_law_prime","_law_cell"] jy) (D_Lrows:Df P w K mg base 2 "_law_rows" ["_law_ties","_law_order","_law_plan_here","_law_many","_law_prime","_law_fallen"] jx) (D_Lrefused:Df P w K mg base 7 "_law_refused" ["_law_net_here","_law_plan_here","_law_many","_law_prime","_law_name"] (eW c))
  (D_sent:DfX P w K mg base 5 "sent" ["net","plan","message","prime","fallen"] (jc c)) (D_carried:DfX P w K mg base 5 "carried" ["net","plan","many","prime","fallen"] (ca c)) (D_carriedd:qx P w K mg base 5 "carried" ["net","plan","many","prime","fallen"] [.non] (ca c)) (D_heard:DfX P w K mg base 6 "heard" ["net","plan","many","prime","listener","fallen"] (eV c NP)):FnOk P w K mg base CX0 8 f fd ["_law_script"] (lV K):=by
 refine F.ok sc_law (fun vs H Q E h=>?_) (fun cdv A outer s H vs Q E hr h=>?_)
 ·obtain⟨a,ns,rfl,_⟩:=h
  rfl
 ·obtain⟨a,ns,rfl,hS,_,q⟩:=h
  have ND:=sc_law.nd
  refine⟨_,(ad (au (i:=1) ND rfl (by first|exact Or.inl rfl|exact Or.inr rfl) (ax aS (aA D_Lcell_at (hr.mono (by decide)) rfl (a8 (pv 0) (a8 aj ae))) aj))
 (ad (cf (av cJ (ax aS (ax bQ (pv 1) aj) aj) aj (aE _))
  (af (tq (aA D_Llong_net (hr.mono (by decide)) rfl (a8 (ax bQ (pv 1) aj) (a8 (pv 0) ae))) (gE K (n:=4) rfl (ak (ai (i:=2) ND rfl (by first|exact Or.inl rfl|exact Or.inr rfl)) (ak (ai (i:=3) ND rfl (by first|exact Or.inl rfl|exact Or.inr rfl)) (ak (ai (i:=4) ND rfl (by first|exact Or.inl rfl|exact Or.inr rfl)) (ak (ai (i:=5) ND rfl (by first|exact Or.inl rfl|exact Or.inr rfl)) bh)))))))
  (af (tq (aA D_Lnet (hr.mono (by decide)) rfl (a8 (ax bQ (pv 1) aj) (a8 (pv 0) ae))) (gE K (n:=4) rfl (ak (ai (i:=2) ND rfl (by first|exact Or.inl rfl|exact Or.inr rfl)) (ak (ai (i:=3) ND rfl (by first|exact Or.inl rfl|exact Or.inr rfl)) (ak (ai (i:=4) ND rfl (by first|exact Or.inl rfl|exact Or.inr rfl)) (ak (ai (i:=5) ND rfl (by first|exact Or.inl rfl|exact Or.inr rfl)) bh))))))))
 (ad (au (i:=6) ND rfl (by first|exact Or.inl rfl|exact Or.inr rfl) (aV (cg K) (bi (a8 aj (a8 aj (a8 aj (a8 aj (a8 aj (a8 aj (a8 aj (a8 aj ae))))))))) (ax aS (pv 1) aj) (fun _ _=>rfl)))
 (ad (au (i:=7) ND rfl (by first|exact Or.inl rfl|exact Or.inr rfl) (ax bS aj (ax aS (ax bQ (pv 1) aj) aj)))
 (ad (au (i:=8) ND rfl (by first|exact Or.inl rfl|exact Or.inr rfl) (aA D_Lstream (hr.mono (by decide)) rfl (a8 (aA D_Lcell_at (hr.mono (by decide)) rfl (a8 (pv 0) (a8 aj ae))) (a8 aj ae))))
 (ad (au (i:=9) ND rfl (by first|exact Or.inl rfl|exact Or.inr rfl) (aA D_Lplan (hr.mono (by decide)) rfl (a8 (pv 3) (a8 (pv 7) (a8 (pv 6) (a8 (aV (cg K) (pv 8) aj (fun _ _=>rfl)) ae))))))
 (ad (au (i:=10) ND rfl (by first|exact Or.inl rfl|exact Or.inr rfl) (aB (ja rfl) rfl T.n_sorted boot_sorted (a8 (br (qt rfl) rfl T.n_set boot_set (a8 (aO rfl (ao (nT:=1) (js:=[]) (N':=["_law_tie"]) rfl rfl (by kernel_rfl)) (cS K (cA (mY K) (pv 3) (bI (ax aS (aV (cg K) (pv 8) aj (fun _ _=>rfl)) aj)) (bI (ax bS (ax aS (aV (cg K) (pv 8) aj (fun _ _=>rfl)) aj) (ax aS (aV (cg K) (pv 8) aj (fun _ _=>rfl)) aj)))))
  (fun _ _ _ _ _=>(ai (i:=0) (show List.Nodup (["_law_tie"]:List Str) by decide +kernel) rfl (by first|exact Or.inl rfl|exact Or.inr rfl)))
  (fun _ _ _ _ _=>aT)
  (fun _ _ _ _ _=>(aV (su K) (pv 0) aj (fun _ _=>rfl)))) ae)) ae)))
 (ad (cf (av cJ (ax aS (aV (cg K) (pv 8) aj (fun _ _=>rfl)) aj) aj (aE _))
  (ad (au (i:=10) ND rfl (by first|exact Or.inl rfl|exact Or.inr rfl) (bi ae))
 (af (au (i:=11) ND rfl (by first|exact Or.inl rfl|exact Or.inr rfl) (kY cK D_carriedd (hr.mono (by decide)) rfl (a8 (pv 2) (a8 (pv 9) (a8 (pv 7) (a8 (pv 6) ae))))))))
  (af (au (i:=11) ND rfl (by first|exact Or.inl rfl|exact Or.inr rfl) (gY cK D_carried (hr.mono (by decide)) rfl (a8 (pv 2) (a8 (pv 9) (a8 (pv 7) (a8 (pv 6) (a8 (br (qU K) rfl T.n_list boot_list (a8 (pv 10) ae)) ae)))))))))
 (ad (au (i:=12) ND rfl (by first|exact Or.inl rfl|exact Or.inr rfl) (aA D_Lrows (hr.mono (by decide)) rfl (a8 (pv 3) (a8 (pv 5) (a8 (pv 9) (a8 (pv 7) (a8 (pv 6) (a8 (pv 10) ae))))))))
 (ad (bB (PW.pt (qK (gD (dv (aB (vm K) rfl T.n_isinstance bR (a8 (pv 11) (a8 (jg (v:=.ty "dict") rfl T.n_dict boot_dict rfl) ae))))) (qK (av (neDK K (oC hZ) (u8 hr)) (pv 11) (pv 12) (aE _)) (pO (av (neLK K hZ (b7 hr)) (br (i4 rfl) rfl T.n_list boot_list (a8 (pv 11) ae)) (aB (df rfl) rfl T.n_sorted boot_sorted (a8 (pv 12) ae)) (aE _))))))
  (af (ay dh))
  aH)
 (ad (au (i:=13) ND rfl (by first|exact Or.inl rfl|exact Or.inr rfl) (aO rfl (ao (nT:=1) (js:=[6,8]) (N':=["_law_k","_law_prime","_law_xs"]) rfl rfl (by kernel_rfl)) (bJ rfl T.n_range (a8 (pv 7) ae))
  (fun _ _ _ _ _=>(ai (i:=0) (show List.Nodup (["_law_k","_law_prime","_law_xs"]:List Str) by decide +kernel) rfl (by first|exact Or.inl rfl|exact Or.inr rfl)))
  (fun _ _ _ _ _=>aT)
  (fun _ _ _ _ _=>(ax aS (aV (cg K) (pv 2) (ax bS aj (pv 0)) (fun _ _=>rfl)) (pv 1)))))
 (ad (au (i:=14) ND rfl (by first|exact Or.inl rfl|exact Or.inr rfl) dM)
 (ad (mn PassesOwn.never rfl (tE (pv 12)) (gE K (n:=2) rfl (ak (ai (i:=15) ND rfl (by first|exact Or.inl rfl|exact Or.inr rfl)) (ak (ai (i:=16) ND rfl (by first|exact Or.inl rfl|exact Or.inr rfl)) bh)))
  (af (cw (b7 hr) (pv 14) (pv 15) (ax aS (aB (sumK K rfl) rfl T.n_sum oZ (a8 (aO rfl (ao (nT:=1) (js:=[13,16]) (N':=["_law_k","_law_message","_law_row"]) rfl rfl (by kernel_rfl)) (bJ rfl T.n_range (a8 (pv 7) ae))
  (fun _ _ _ _ _=>(ai (i:=0) (show List.Nodup (["_law_k","_law_message","_law_row"]:List Str) by decide +kernel) rfl (by first|exact Or.inl rfl|exact Or.inr rfl)))
  (fun _ _ _ _ _=>aT)
  (fun _ _ _ _ _=>(ax iC (aV (cg K) (pv 2) (pv 0) (fun _ _=>rfl)) (aV (cg K) (pv 1) (pv 0) (fun _ _=>rfl))))) ae)) (pv 6)) rfl)))
 (ad (au (i:=17) ND rfl (by first|exact Or.inl rfl|exact Or.inr rfl) (gY cK D_sent (hr.mono (by decide)) rfl (a8 (pv 2) (a8 (pv 9) (a8 (pv 13) (a8 (pv 6) (a8 (br (qU K) rfl T.n_list boot_list (a8 (pv 10) ae)) ae)))))))
 (ad (bB (PW.pt (qK (av (neDK K hZ (b7 hr)) (pv 17) (pv 14) (aE _)) (pO (av (neLK K hZ (b7 hr)) (br (i4 rfl) rfl T.n_list boot_list (a8 (pv 17) ae)) (aB (df rfl) rfl T.n_sorted boot_sorted (a8 (pv 14) ae)) (aE _)))))
  (af (ay dh))
  aH)
 (ad (bt PassesOwn.never rfl (cS K (pv 4)) (ai (i:=18) ND rfl (by first|exact Or.inl rfl|exact Or.inr rfl))
  (af (bB (av (neLK K (oC hZ) (u8 hr)) (gY cK D_heard (hr.mono (by decide)) rfl (a8 (pv 2) (a8 (pv 9) (a8 (pv 7) (a8 (pv 6) (a8 (pv 18) (a8 (br (qU K) rfl T.n_list boot_list (a8 (pv 10) ae)) ae))))))) (aO rfl (ao (nT:=1) (js:=[12]) (N':=["_law_number","_law_rows_here"]) rfl rfl (by kernel_rfl)) (cS K (aA D_Linto (hr.mono (by decide)) rfl (a8 (pv 3) (a8 (pv 18) ae))))
  (fun _ _ _ _ _=>(ai (i:=0) (show List.Nodup (["_law_number","_law_rows_here"]:List Str) by decide +kernel) rfl (by first|exact Or.inl rfl|exact Or.inr rfl)))
  (fun _ _ _ _ _=>aT)
  (fun _ _ _ _ _=>(bP (b7 hr) (pv 1) (pv 0) (fun _ _=>rfl)))) (aE _))
  (af (ay dh))
  aH)))
 (af (ay (mw (aA D_Lrefused (hr.mono (by decide)) rfl (a8 (pv 2) (a8 (pv 9) (a8 (pv 7) (a8 (pv 6) (a8 bu ae)))))) (mr (aA D_Lrefused (hr.mono (by decide)) rfl (a8 (pv 2) (a8 (pv 9) (a8 (pv 7) (a8 (pv 6) (a8 bu ae)))))))))))))))))))))))))),?_⟩
  refine⟨_,rfl,a,0,ns,rfl,by decide,hS,fun c0=>⟨_,_,rfl,rfl,(by show (0:Int)<2147483647;decide),?_⟩⟩
  have z0:0≤c0 % 2147483647:=Int.emod_nonneg _ (by decide)
  refine⟨fun σ H1=>∃ n tl ll lo dp dt S ord R,σ=[some (.ref a),some (.int (c0 % 2147483647)),some (.ref n),some (.ref tl),some (.ref ll),some (.ref lo),none,none,none,none,none,none,none,none,none,none,none,none,none]∧Same H H1∧NetAt c H1 n dp dt S∧TiesS H1 tl R∧H1 ll=some (.lst (S.lis.map V.str))∧H1 lo=some (.lst (ord.map V.str))∧LX S ord R∧∀ x,(aG R x).length≤14,?_,?_⟩
  case refine_2=>
   refine⟨_,rfl,_,_,rfl,rfl,⟨by decide,by decide⟩,_,_,rfl,rfl,(by show (0:Int)<9;decide),rfl,_,rfl,bT (fun g=>?_) (fun g=>?_)⟩
   ·refine⟨_,rfl,_,_,rfl,rfl,⟨by decide,by decide⟩,_,rfl,_,a,ns,rfl,hS,fun t n tl ll lo dp dt H1 S ord R e1 ht0 ht N1 T1 l1 o1 X1 i1=>⟨t,[.ref n,.ref tl,.ref ll,.ref lo],rfl,SqT.of ht,rfl,_,_,rfl,_,_,rfl,_,_,rfl,_,[],rfl,rfl,?_⟩⟩
    exact⟨n,tl,ll,lo,dp,dt,S,ord,R,rfl,e1,N1,T1,l1,o1,X1,i1⟩
   ·refine⟨_,rfl,_,_,rfl,rfl,⟨by decide,by decide⟩,_,rfl,_,a,ns,rfl,hS,fun t n tl ll lo dp dt H1 S ord R e1 ht0 ht N1 T1 l1 o1 X1 i1=>⟨t,[.ref n,.ref tl,.ref ll,.ref lo],rfl,SqT.of ht,rfl,_,_,rfl,_,_,rfl,_,_,rfl,_,[],rfl,rfl,?_⟩⟩
    exact⟨n,tl,ll,lo,dp,dt,S,ord,R,rfl,e1,N1,T1,l1,o1,X1,i1⟩
  rintro σ H1 ⟨n,tl,ll,lo,dp,dt,S,ord,R,rfl,e1,N1,T1,l1,o1,X1,i1⟩
  refine⟨(by show 8≤sizeLine;decide),fun L2' H2 e2 h2 hL2=>?_⟩
  obtain⟨p,ap,pP,p0,p1⟩:=rU ((c0 % 2147483647) % 8) (Int.emod_nonneg _ (by decide)) (Int.emod_lt_of_pos _ (by decide))
  refine⟨_,rfl,_,_,rfl,rfl,(by show (0:Int)<8;decide),L2',_,_,.int p,rfl,rfl,SqL.of hL2,ap,?_⟩
  have m0:0≤(c0 % 2147483647) / 8 % 6:=Int.emod_nonneg _ (by decide)
  have m1:(c0 % 2147483647) / 8 % 6<6:=Int.emod_lt_of_pos _ (by decide)
  obtain⟨many,hmany⟩:=Int.eq_ofNat_of_zero_le (show 0≤1+(c0 % 2147483647) / 8 % 6 by omega)
  refine⟨_,rfl,_,_,rfl,rfl,⟨by decide,by decide⟩,_,_,rfl,rfl,(by show (0:Int)<6;decide),_,_,rfl,rfl,?_⟩
  change bg 7 (V.int (1+c0 % 2147483647 / 8 % 6)) _ _ _
  rw[hmany]
  have mlo:1≤many:=by omega
  have mhi:many≤6:=by omega
  refine⟨_,rfl,a,1,ns,rfl,by decide,sqm hS (e1.trans e2),fun c1=>⟨c1,12,rfl,by decide,fun xl H3 xs e3 h3 hxl hx3=>?_⟩⟩
  have xv:∀ k,k<12→atI (xs.map V.int) ((k:Nat):Int)=some (.int (xs.getD k 0)):=fun k hk=>bc (by rw[List.getElem?_map,List.getElem?_eq_getElem (by omega),List.getD_eq_getElem?_getD,List.getElem?_eq_getElem (by omega)];rfl)
  have rnd:(R.map (·.1)).Nodup:=X1.ln.asc.imp fun h=>Int.ne_of_lt h
  have rlen:=X1.ln.rlen
  have e13:=e2.trans e3
  refine⟨_,rfl,_,rfl,_,rfl,_,rfl,xl,_,0,.int (xs.getD 0 0),rfl,rfl,SqL.of hx3,xv 0 (by decide),tl,many,p,xs.getD 0 0,R,rfl,T1.mono e13,rlen,rnd,p0,by omega,i1,fun d H4 rows e4 hd0 pl pr=>?_⟩
  have e14:=e13.trans e4
  have hx4:=e4 _ _ hx3
  obtain⟨ts,hts,hp⟩:=T1.mono e14
  have hl:=Paired.length hp
  refine⟨_,rfl,_,rfl,xl,_,1,.int (xs.getD 1 0),rfl,rfl,SqL.of hx4,xv 1 (by decide),_,_,rfl,rfl,(by show (0:Int)<9;decide),_,rfl,_,rfl,xl,_,1,.int (xs.getD 1 0),rfl,rfl,SqL.of hx4,xv 1 (by decide),_,_,rfl,rfl,(by show (0:Int)<9;decide),_,rfl,xl,_,2,.int (xs.getD 2 0),rfl,rfl,SqL.of hx4,xv 2 (by decide),_,_,rfl,rfl,(by show (0:Int)<4;decide),_,_,rfl,rfl,_,rfl,tl,ts,rfl,SqL.of hts,fun L5 H5 e5 h5 hL5=>?_⟩
  have hcl:=vC ts (some (xs.getD 1 0 % 9)) (some (xs.getD 1 0 % 9+xs.getD 2 0 % 4))
  have hcm:∀ z∈cm ts (some (xs.getD 1 0 % 9)) (some (xs.getD 1 0 % 9+xs.getD 2 0 % 4)),z∈ts:=fun z hz=>mM hz
  have hL5:H5 L5=some (.lst (cm ts (some (xs.getD 1 0 % 9)) (some (xs.getD 1 0 % 9+xs.getD 2 0 % 4)))):=hL5
  generalize cm ts (some (xs.getD 1 0 % 9)) (some (xs.getD 1 0 % 9+xs.getD 2 0 % 4))=cv at hL5 hcl hcm
  obtain⟨cr,hcr⟩:=cover (F:=TieT H5) cv fun z hz=>by
   obtain⟨j,hj,ej⟩:=List.getElem_of_mem (hcm z hz)
   obtain⟨r,_,hr'⟩:=Paired.at hp (List.getElem?_eq_getElem hj)
   rw[ej]at hr'
   exact⟨r,hr'.mono e5⟩
  have crl:=Paired.length hcr
  refine⟨L5,rfl,⟨_,SqL.of hL5⟩,gN (fun i=>(cr.getD i (0,"","")).1) hL5 (by omega) (fun i x H6 ex e6=>?_) (fun l6 H6 h6 e6 hl6=>?_)⟩
  ·obtain⟨r,er,b,rfl,hb⟩:=Paired.at hcr ex
   exact⟨_,rfl,b,_,0,.int r.1,rfl,rfl,SqT.of (e6 _ _ hb),rfl,by rw[b8 er],Same.refl _⟩
  refine⟨l6,_,rfl,hl6,by rw[List.length_map,List.length_range];omega,fun rr hrr=>⟨rr,_,rfl,a9,?_,fun fs pm pw lf H8 e8 h8 hlf=>?_⟩⟩
  ·have:=Sk.dedup_len ((List.range cv.length).map fun i=>(cr.getD i (0,"","")).1)
   rw[List.length_map,List.length_range]at this
   omega
  have fsz:fs.length≤40:=by
   have:=Sk.dedup_len ((List.range cv.length).map fun i=>(cr.getD i (0,"","")).1)
   rw[List.length_map,List.length_range]at this
   have:=pm.length_eq
   omega
  have e48:Same H4 H8:=(e5.trans e6).trans ((az (Same.refl _) hrr).trans e8)
  clear pm pw e8 h8 hl6 e6 h6 hL5 hcr hcm hcl crl
  have CO:∀ {H':Hp}{x:V}{fo:Option (List Int)},Same H4 H'→MixW H' x fo→(∀ ks,fo=some ks→ks.length≤1000)→CarOk c H' n dp dt S d x p rows fo:=fun {H' x fo} e' fal falz=>car_ok (N1.mono (e14.trans e')) X1 (pl.mono e') pr (by omega) i1 p1 pP fal falz
  refine⟨fun σ H'=>∃ (lf' te:Addr)(fo:Option (List Int))(fs:List Int)(rs1:List aK),σ=[some (.ref a),some (.int (c0 % 2147483647)),some (.ref n),some (.ref tl),some (.ref ll),some (.ref lo),some (.int p),some (.int (many:Int)),some (.ref xl),some (.ref d),some (.ref lf'),some (.ref te),none,none,none,none,none,none,none]∧Same H4 H'∧H' lf'=some (.lst (fs.map V.int))∧fs.length≤40∧(fo=some fs∨fo=none∧fs=[])∧PlanAt H' te rs1∧(rs1.map (·.1)).Pairwise (·≤·)∧(rs1.map fun r=>(r.1,r.2.2)).Perm ((aq S).map fun m=>(m.1,de p rows fo (aq S) many m.1)),?_,?_⟩
  case refine_2=>
   refine⟨_,rfl,xl,_,3,.int (xs.getD 3 0),rfl,rfl,SqL.of (e48 _ _ hx4),xv 3 (by decide),_,_,rfl,rfl,(by show (0:Int)<2;decide),rfl,_,rfl,bT (fun g=>?_) (fun g=>?_)⟩
   ·refine⟨(by show 0≤sizeLine;decide),fun l9 H9 e9 h9 hl9=>?_⟩
    refine⟨_,rfl,_,rfl,_,rfl,_,rfl,n,dp,dt,S,d,.non,p,rows,none,many,rfl,CO (e48.trans e9) rfl (fun ks z=>nomatch z),by omega,fun te H10 rs1 e10 h10 pl1 pw1 pm1=>?_⟩
    exact⟨l9,te,none,[],rs1,rfl,(e48.trans e9).trans e10,e10 _ _ hl9,by decide,.inr ⟨rfl,rfl⟩,pl1,pw1,pm1⟩
   ·refine⟨_,rfl,_,rfl,_,rfl,_,rfl,_,rfl,lf,_,rfl,.inl (SqL.of hlf),fun l9 H9 e9 h9 hl9=>⟨n,dp,dt,S,d,.ref l9,p,rows,some fs,many,rfl,CO (e48.trans e9) ⟨l9,rfl,hl9⟩ (fun ks z=>by cases z;omega),by omega,fun te H10 rs1 e10 h10 pl1 pw1 pm1=>?_⟩⟩
    exact⟨lf,te,some fs,fs,rs1,rfl,(e48.trans e9).trans e10,e10 _ _ (e9 _ _ hlf),fsz,.inl rfl,pl1,pw1,pm1⟩
  rintro σ H8' ⟨lf,te,fo,fs,rs1,rfl,e48,hlf,fsz,hfo,pl1,pw1,pm1⟩
  refine⟨_,rfl,_,rfl,_,rfl,_,rfl,_,rfl,_,rfl,tl,lo,d,lf,S,ord,R,rows,many,p,fs,rfl,T1.mono (e14.trans e48),e48 _ _ (e14 _ _ o1),X1.ln,pl.mono e48,pr,p0,p1,by omega,hlf,by omega,fun re H9 rs e9 hre pl2 hRI=>?_⟩
  have W:Lw p many rows (some fs) R rs:=hRI.lw X1.ln
  have e49:=e48.trans e9
  have W1:Lw p many rows fo R rs:=by
   rcases hfo with h|⟨h1,h2⟩
   ·rw[h];exact W
   ·rw[h1];rw[h2]at W;exact W.none
  obtain⟨sm,kp⟩:=W1.told X1.ln pm1
  have rsl:=W.len
  have pl19:=pl1.mono e9
  refine⟨_,rfl,.ref te,_,"dict",true,rfl,.dK pl19.dict,TD,_,rfl,bv ?_⟩
  refine⟨_,rfl,_,rfl,i0 rs1,i0 rs,pl19.ds,pl2.ds,_,rfl,?_⟩
  rw[sm]
  refine bv ?_
  refine⟨_,rfl,te,_,rfl,pl19.dict,fun l11 H11 e11 h11 hl11=>⟨_,rfl,re,_,rs.map (·.1),rfl,e11 _ _ pl2.dict,by unfold aU;rw[List.map_map,List.map_map];rfl,by rw[List.length_map];omega,fun ns' pm' pw' l12 H12 e12 h12 hl12=>⟨rs1.map (·.1),ns',eD (e12 _ _ (by rw[hl11];unfold aU;rw[List.map_map,List.map_map];rfl)),eD hl12,_,rfl,?_⟩⟩⟩
  rw[decide_eq_true (Mw.sorted_eq (kp.trans pm'.symm) pw1 pw')]
  refine bv ?_
  have e9':=e11.trans e12
  have e412:=e49.trans e9'
  have pl12:=pl2.mono e9'
  have hlf12:=e9' _ _ (e9 _ _ hlf)
  clear hl11 hl12 e11 e12 h11 h12 pl19 pl1 pm1 pw1 sm kp pm' pw'
  refine⟨_,rfl,_,rfl,by omega,by omega,?_⟩
  rw[Int.toNat_natCast]
  refine dk (n:=many) (fun k=>xs.getD (4+k) 0 % p) (by omega) (fun k H13 hk e13'=>?_) (fun ml H13 h13 e13' hml=>?_)
  ·refine⟨_,rfl,_,rfl,_,_,rfl,rfl,xl,_,_,.int (xs.getD (4+k) 0),rfl,rfl,SqL.of (e13' _ _ (e412 _ _ hx4)),?_,_,rfl,_,_,rfl,rfl,p0,rfl,Same.refl _⟩
   have:=xv (4+k) (by omega)
   rw[Int.natCast_add]at this
   rw[Int.zero_add]
   exact this
  have e413:=e412.trans e13'
  have pl13:=pl12.mono e13'
  have hlf13:=e13' _ _ hlf12
  obtain⟨msg,emsg⟩:∃ msg:List Int,msg=(List.range many).map fun k=>xs.getD (4+k) 0 % p:=⟨_,rfl⟩
  rw[← emsg]at hml
  have msl:msg.length=many:=by rw[emsg];simp
  have msf:InF p msg:=fun z hz=>by
   rw[emsg]at hz
   obtain⟨k,_,rfl⟩:=List.mem_map.mp hz
   exact⟨Int.emod_nonneg _ (by omega),Int.emod_lt_of_pos _ p0⟩
  clear emsg
  intro cd hcd
  have nre:re≠cd:=ag pl13.dict hcd
  have nml:ml≠cd:=ag hml hcd
  have nmr:ml≠re:=bb hml pl13.dict (fun z=>nomatch z)
  have kvs:∀ (i:Nat) kv,(aU rs)[i]?=some kv→∃ r,rs[i]?=some r∧kv=((Sum.inl r.1:Key),V.ref r.2.1):=fun i kv h=>by
   unfold aU at h
   rw[List.getElem?_map]at h
   obtain⟨r,er,rfl⟩:=Option.map_eq_some_iff.mp h
   exact⟨r,er,rfl⟩
  have pll:(aU rs).length=rs.length:=by unfold aU;rw[List.length_map]
  refine⟨_,rfl,re,aU rs,rfl,by rw[aa nre];exact pl13.dict,fun ob M hM=>?_⟩
  refine sC (K:=K) (o:=ob) (d:=re) (kvs:=aU rs) (fun i σ H'=>(∃ o15 o16,σ=[some (.ref a),some (.int (c0 % 2147483647)),some (.ref n),some (.ref tl),some (.ref ll),some (.ref lo),some (.int p),some (.int (many:Int)),some (.ref xl),some (.ref d),some (.ref lf),some (.ref te),some (.ref re),some (.ref ml),some (.ref cd),o15,o16,none,none])∧(∀ b u,b≠re→H13 b=some u→H' b=some u)∧H' re=some (.frz ob (.dK (aU rs)))∧H' cd=some (.dK (csD (eI p msg (rs.take i)))))
   ⟨⟨none,none,rfl⟩,fun b u hb hu=>by rw[aa hb,aa (ag hu hcd)];exact hu,a9,by rw[aa nre.symm,a9,List.take_zero];rfl⟩ (fun i σ H' _ h=>h.2.2.1) ?_ ?_
  ·rintro i kv T' σ G ek ⟨⟨o15,o16,rfl⟩,k7,f7,c7⟩ hT
   obtain⟨r,er,rfl⟩:=kvs i kv ek
   have rm:=List.mem_of_getElem? er
   obtain⟨rl,rf⟩:=W.row r rm
   have eT:Same G (upd G T' (.tup [.int r.1,.ref r.2.1])):=az (Same.refl _) hT
   have hrow:G r.2.1=some (.lst (r.2.2.map V.int)):=k7 _ _ (bb (pl13.row r rm) pl13.dict (fun z=>nomatch z)) (pl13.row r rm)
   have hmlG:G ml=some (.lst (msg.map V.int)):=k7 _ _ nmr hml
   refine⟨_,rfl,_,rfl,by omega,by omega,?_⟩
   rw[Int.toNat_natCast]
   refine dk (n:=many) (fun k=>r.2.2.getD k 0 * msg.getD k 0) (by omega) (fun k G2 hk e2'=>?_) (fun l G2 h2' e2' hl2=>?_)
   ·have k1:k<r.2.2.length:=by omega
    have k2:k<msg.length:=by omega
    have f1:=rf _ (List.getElem_mem k1)
    have f2:=msf _ (List.getElem_mem k2)
    refine⟨_,rfl,_,rfl,r.2.1,_,_,.int (r.2.2[k]),rfl,rfl,SqL.of (e2' _ _ (eT _ _ hrow)),?_,_,rfl,_,rfl,ml,_,_,.int (msg[k]),rfl,rfl,SqL.of (e2' _ _ (eT _ _ hmlG)),?_,_,_,rfl,rfl,.inl ⟨by omega,by omega⟩,?_,Same.refl _⟩
    ·rw[Int.zero_add]
     exact bc (by rw[List.getElem?_map,List.getElem?_eq_getElem k1];rfl)
    ·rw[Int.zero_add]
     exact bc (by rw[List.getElem?_map,List.getElem?_eq_getElem k2];rfl)
    ·rw[b8 (List.getElem?_eq_getElem k1),b8 (List.getElem?_eq_getElem k2)]
   have sd:((List.range many).map fun k=>r.2.2.getD k 0 * msg.getD k 0).sum=Mx.dot r.2.2 msg:=by
    have:=lT r.2.2 msg
    rw[rl,msl,Nat.min_self]at this
    exact this
   have eG2:=eT.trans e2'
   have kn:¬ r.1∈(eI p msg (rs.take i)).map (·.1):=fun hm=>by
    unfold eI at hm
    rw[List.map_map]at hm
    obtain⟨y,hy,ey⟩:=List.mem_map.mp hm
    obtain⟨k,hk,ek'⟩:=List.mem_take_iff_getElem.mp hy
    have:=b6 W.nd (i:=k) (j:=i) (x:=r.1) (by rw[List.getElem?_map,List.getElem?_eq_getElem (by omega),ek'];exact congrArg some ey) (by rw[List.getElem?_map,er];rfl)
    omega
   refine⟨l,_,rfl,SqL.of hl2,_,rfl,_,_,rfl,rfl,p0,_,rfl,_,rfl,cd,_,rfl,DPut.k (k:=Sum.inl r.1) (eG2 _ _ c7) ?_,⟨_,_,rfl⟩,fun b u hb hu=>?_,?_,?_⟩
   ·unfold csD eI
    rw[List.length_map,List.length_map,List.length_take]
    show _<2 ^ 24
    omega
   ·rw[aa (ag hu hcd)];exact eG2 _ _ (k7 b u hb hu)
   ·rw[aa nre];exact eG2 _ _ f7
   ·rw[a9,sd,d0 _ (by rw[lS,d7 kn];rfl)]
    unfold csD eI
    rw[List.take_add_one,er,List.map_append,List.map_append]
    rfl
  rintro σ G ⟨⟨o15,o16,rfl⟩,k7,f7,c7⟩
  rw[pll,List.take_length]at c7
  refine⟨re,ob,_,hM,f7,?_⟩
  have eG:Same H13 (upd G re (.dK (aU rs))):=fun b u hu=>by
   by_cases hb:b=re
   ·subst hb
    rw[a9,← pl13.dict]
    exact hu
   ·rw[aa hb];exact k7 b u hb hu
  have hcG:upd G re (.dK (aU rs)) cd=some (.dK (csD (eI p msg rs))):=by rw[aa nre.symm];exact c7
  generalize upd G re (.dK (aU rs))=H14 at eG hcG
  clear k7 f7 c7 hM
  have e414:=e413.trans eG
  have pl14:=pl13.mono eG
  refine⟨_,rfl,_,rfl,_,rfl,_,rfl,_,rfl,lf,_,rfl,.inl (SqL.of (eG _ _ hlf13)),fun l15 H15 e15 h15 hl15=>⟨n,dp,dt,S,d,.ref ml,.ref l15,p,rows,msg,some fs,rfl,CO (e414.trans e15) ⟨l15,rfl,hl15⟩ (fun ks z=>by cases z;omega),⟨ml,rfl,e15 _ _ (eG _ _ hml)⟩,fun fe H16 cs e16 h16 c1' c2' c3'=>?_⟩⟩
  obtain⟨sm,kp⟩:=W.sent X1.ln msg c1'
  have e1416:=e15.trans e16
  have hc16:=e1416 _ _ hcG
  have crk:(eI p msg rs).map (·.1)=rs.map (·.1):=by unfold eI;rw[List.map_map];rfl
  refine⟨_,rfl,_,rfl,i3 cs,i3 (eI p msg rs),cs_ds c3',cs_ds hc16,_,rfl,?_⟩
  rw[sm]
  refine bv ?_
  refine⟨_,rfl,fe,_,rfl,c3',fun l17 H17 e17 h17 hl17=>⟨_,rfl,cd,_,(eI p msg rs).map (·.1),rfl,e17 _ _ hc16,by unfold csD;rw[List.map_map,List.map_map];rfl,by rw[crk,List.length_map];omega,fun ns' pm' pw' l18 H18 e18 h18 hl18=>⟨cs.map (·.1),ns',eD (e18 _ _ (by rw[hl17];unfold csD;rw[List.map_map,List.map_map];rfl)),eD hl18,_,rfl,?_⟩⟩⟩
  rw[decide_eq_true (Mw.sorted_eq (kp.trans pm'.symm) c2' pw')]
  refine bv ?_
  have e1418:=(e1416.trans e17).trans e18
  have e418:=e414.trans e1418
  have pl18:=pl14.mono e1418
  have hlf18:=e1418 _ _ (eG _ _ hlf13)
  have hll18:=e418 _ _ (e14 _ _ l1)
  clear hl17 hl18 e17 e18 h17 h18 pm' pw' hc16 e1416 c1' c2' c3' sm kp
  refine⟨_,rfl,ll,rfl,⟨_,SqL.of hll18⟩,bE (K:=K) (xs:=S.lis.map V.str) (fun i σ H'=>(∃ o18,σ=[some (.ref a),some (.int (c0 % 2147483647)),some (.ref n),some (.ref tl),some (.ref ll),some (.ref lo),some (.int p),some (.int (many:Int)),some (.ref xl),some (.ref d),some (.ref lf),some (.ref te),some (.ref re),some (.ref ml),some (.ref cd),o15,o16,some (.ref fe),o18])∧Same H18 H') ⟨⟨none,rfl⟩,Same.refl _⟩ (fun i σ H' _ h=>SqL.of (h.2 _ _ hll18)) ?_ ?_⟩
  ·rintro i v σ G ev ⟨⟨o18,rfl⟩,eG'⟩
   obtain⟨g,eg,rfl⟩:=Option.map_eq_some_iff.mp (List.getElem?_map▸ev)
   have gm:=List.mem_of_getElem? eg
   refine⟨_,rfl,_,rfl,_,rfl,_,rfl,_,rfl,_,rfl,lf,_,rfl,.inl (SqL.of (eG' _ _ hlf18)),fun l19 H19 e19 h19 hl19=>⟨n,dp,dt,S,d,.ref l19,p,rows,some fs,many,g,rfl,CO ((e418.trans eG').trans e19) ⟨l19,rfl,hl19⟩ (fun ks z=>by cases z;omega),by omega,fun hn=>absurd gm hn,fun _=>⟨X1.sub gm,X1.heard,fun lh H20 hs e20 hlh hph=>?_⟩⟩⟩
   have e1820:=(eG'.trans e19).trans e20
   have il:(aG R g).length≤14:=i1 g
   refine⟨_,rfl,_,rfl,tl,g,R,rfl,T1.mono ((e14.trans e418).trans e1820),by omega,fun li H21 e21 h21 hli=>?_⟩
   have pl21:=(pl18.mono e1820).mono e21
   refine⟨li,rfl,⟨_,SqL.of hli⟩,gM (fun i=>match bA rs ((aG R g).getD i 0) with|some r=>.ref r.2.1|none=>.non) hli (by rw[List.length_map];omega) (fun i y H22 ey e22=>?_) (fun l22 H22 h22 e22 hl22=>?_)⟩
   ·obtain⟨k,ek,rfl⟩:=gH ey
    obtain⟨y,ym,yk,yi,yf⟩:=W.at (k6 g k (List.mem_of_getElem? ek))
    have hv:=cU rs k
    rw[yi,Option.map_some]at hv
    refine⟨_,rfl,_,rfl,re,_,rfl,hv▸DGet.k (k:=Sum.inl k) (e22 _ _ pl21.dict),?_,Same.refl _⟩
    rw[b8 ek,yi]
   refine⟨(aG R g).map (bp rs),(aG R g).map (bp rs),⟨lh,hs,rfl,SqL.of (e22 _ _ (e21 _ _ hlh)),?_⟩,⟨l22,_,rfl,SqL.of hl22,?_⟩,_,rfl,?_⟩
   ·rw[W.heard X1.ln g]at hph
    exact Paired.mapP hph fun _ _ z=>((z.mono e21).mono e22).ls
   ·refine d6 (by simp) fun i v cs' hv hc'=>?_
    rw[List.getElem?_map]at hc'
    obtain⟨k,ek,rfl⟩:=Option.map_eq_some_iff.mp hc'
    have il':i<(aG R g).length:=(List.getElem?_eq_some_iff.mp ek).1
    rw[List.getElem?_map,List.getElem?_range (by rw[List.length_map];exact il')]at hv
    have hv:(match bA rs ((aG R g).getD i 0) with|some r=>V.ref r.2.1|none=>.non)=v:=Option.some.inj hv
    obtain⟨y,ym,yk,yi,yf⟩:=W.at (k6 g k (List.mem_of_getElem? ek))
    rw[b8 ek,yi]at hv
    rw[yf,← hv]
    exact eD (e22 _ _ (pl21.row y ym))
   ·rw[decide_eq_true rfl]
    exact bv ⟨⟨_,rfl⟩,(e1820.trans e21).trans e22⟩
  ·rintro σ G ⟨⟨o18,rfl⟩,eG'⟩
   have e4G:=e418.trans eG'
   refine⟨_,rfl,_,rfl,_,rfl,_,rfl,n,dp,dt,S,d,p,rows,many,"h",rfl,CO e4G rfl (fun ks z=>nomatch z),by omega,X1.noh,fun H20 e20=>⟨_,rfl,ci ⟨_,rfl,_,rfl,_,rfl,_,rfl,n,dp,dt,S,d,p,rows,many,"none",rfl,CO (e4G.trans e20) rfl (fun ks z=>nomatch z),by omega,X1.nono,fun H21 e21=>q _⟩⟩⟩
end
end K42
namespace K42
open PySem L2
section
variable {P : Program}{w : World}{K : PySem.W.Frag}{mg : Str → Option Value}{base h : Heap}
def In0 (K:PySem.W.Frag)(C:Addr)(qual:Str)(st:Stmt):Prop:=∃ f fd,Mk K C f∧Fun K "__init__" qual st f fd
theorem in0_mk {C:Addr}{qual:Str}{st:Stmt}{f:Addr}{oc:Value}{od an:Option Addr}{osl:Array (Option Value)}{kV doc pm cdv ct:Value} (mk:PySem.W.makesIn K C=true) (a:PySem.W.findIn K (.ref C) "__init__"=some (some (.ref f))) (i:PySem.W.isFn K (.ref f)=true) (kc:PySem.W.keepIn K (.ref C)=true)
  (l:K.lookup f=some ⟨oc,od,.func (PySem.W.fnOf "__init__" qual (aQ st) (aJ st) (ah st) .none kV doc pm an cdv ct),osl⟩)
  (c:PySem.W.codeIn K cdv qual=true) (k:PySem.W.keepIn K (.ref f)=true):In0 K C qual st:=⟨f,_,⟨mk,a,i,kc⟩,mJ l c k⟩
def uw (K:PySem.W.Frag)(C:Addr)(m qual:Str)(st:Stmt):Prop:=∃ (f T:Addr)(t:Tok)(kV doc pm:Value)(an:Option Addr)(cdv ct:Value)(oc:Value)(od:Option Addr)(osl:Array (Option Value))(tc:Value)(td:Option Addr)(n:Nat)(tsl:Array (Option Value)),pe K C m f∧
 K.lookup f=some ⟨oc,od,.func (PySem.W.fnOf m qual (aQ st) (aJ st) (ah st) (.ref T) kV doc pm an cdv ct),osl⟩∧PySem.W.codeIn K cdv qual=true∧PySem.W.keepIn K (.ref f)=true∧K.lookup T=some ⟨tc,td,.seq #[.int 1 t] n,tsl⟩
theorem meD0_mk {C:Addr}{m qual:Str}{st:Stmt}{f T:Addr}{t:Tok}{oc tc:Value}{od an td:Option Addr}{osl tsl:Array (Option Value)}{n:Nat}{kV doc pm cdv ct:Value} (a:PySem.W.findIn K (.ref C) m=some (some (.ref f))) (i:PySem.W.isFn K (.ref f)=true)
  (l:K.lookup f=some ⟨oc,od,.func (PySem.W.fnOf m qual (aQ st) (aJ st) (ah st) (.ref T) kV doc pm an cdv ct),osl⟩)
  (c:PySem.W.codeIn K cdv qual=true) (k:PySem.W.keepIn K (.ref f)=true) (d:K.lookup T=some ⟨tc,td,.seq #[.int 1 t] n,tsl⟩):uw K C m qual st:=⟨f,T,t,kV,doc,pm,an,cdv,ct,oc,od,osl,tc,td,n,tsl,⟨a,i,k⟩,l,c,k,d⟩
theorem tW {C:Addr}{x qual:Str}{st:Stmt}{ps:List Str}{sp:Sp}{k:Nat} (F:uw K C x qual st) (cl:Cls K C)
  (hb:∀ (T:Addr)(t:Tok)(kV doc pm:Value)(an:Option Addr)(cdv ct:Value)(us:List Value),us.length=ps.length→∃ kk,bindArgs (PySem.W.fnOf x qual (aQ st) (aJ st) (ah st) (.ref T) kV doc pm an cdv ct) ⟨us,[]⟩=seqItems? (.ref T) >>= kk∧kk (some #[.int 1 t])=pure (ps.zip us))
  (ok:∀ f fd,FunD K x qual st f fd→FnOk P w K mg base (CXE P w) k f fd ps sp):DmX P w K mg base k C x ps sp:=by
 obtain⟨f,T,t,kV,doc,pm,an,cdv,ct,oc,od,osl,tc,td,n,tsl,m,l,c,kp,d⟩:=F
 refine⟨f,_,cl,m,fun s us hin hl=>?_,ok f _ ⟨⟨oc,od,.ref T,kV,doc,pm,an,cdv,ct,osl,rfl,l,c⟩,kp⟩⟩
 rw[List.append_nil]at hl ⊢
 obtain⟨kk,h1,h2⟩:=hb T t kV doc pm an cdv ct us hl
 exact BindsTo.of_defaults rfl (hin _ _ d) rfl h1 h2
def sN (K:PySem.W.Frag)(x qual:Str)(st:Stmt):Prop:=∃ (f T:Addr)(kV doc pm:Value)(an:Option Addr)(cdv ct:Value)(oc:Value)(od:Option Addr)(osl:Array (Option Value))(tc:Value)(td:Option Addr)(n:Nat)(tsl:Array (Option Value)),PySem.W.nsIn K mainGlobals x=some (some (.ref f))∧
 K.lookup f=some ⟨oc,od,.func (PySem.W.fnOf x qual (aQ st) (aJ st) (ah st) (.ref T) kV doc pm an cdv ct),osl⟩∧PySem.W.codeIn K cdv qual=true∧PySem.W.keepIn K (.ref f)=true∧K.lookup T=some ⟨tc,td,.seq #[.none] n,tsl⟩
theorem fnD0_mk {x qual:Str}{st:Stmt}{f T:Addr}{oc tc:Value}{od an td:Option Addr}{osl tsl:Array (Option Value)}{n:Nat}{kV doc pm cdv ct:Value} (a:PySem.W.nsIn K mainGlobals x=some (some (.ref f)))
  (l:K.lookup f=some ⟨oc,od,.func (PySem.W.fnOf x qual (aQ st) (aJ st) (ah st) (.ref T) kV doc pm an cdv ct),osl⟩)
  (c:PySem.W.codeIn K cdv qual=true) (k:PySem.W.keepIn K (.ref f)=true) (d:K.lookup T=some ⟨tc,td,.seq #[.none] n,tsl⟩):sN K x qual st:=⟨f,T,kV,doc,pm,an,cdv,ct,oc,od,osl,tc,td,n,tsl,a,l,c,k,d⟩
theorem kd {x qual:Str}{st:Stmt}{ps:List Str}{sp:Sp}{k:Nat} (F:sN K x qual st) (X:K.In h) (G:h.Ns mainGlobals mg)
  (hb:∀ (T:Addr)(kV doc pm:Value)(an:Option Addr)(cdv ct:Value)(us:List Value),us.length=ps.length→∃ kk,bindArgs (PySem.W.fnOf x qual (aQ st) (aJ st) (ah st) (.ref T) kV doc pm an cdv ct) ⟨us,[]⟩=seqItems? (.ref T) >>= kk∧kk (some #[.none])=pure (ps.zip us))
  (ok:∀ f fd,FunD K x qual st f fd→FnOk P w K mg base (CXE P w) k f fd ps sp):DfX P w K mg base k x ps sp:=by
 obtain⟨f,T,kV,doc,pm,an,cdv,ct,oc,od,osl,tc,td,n,tsl,a,l,c,kp,d⟩:=F
 refine⟨f,_,PySem.W.mg_of X G a,kp,fun s us hin hl=>?_,ok f _ ⟨⟨oc,od,.ref T,kV,doc,pm,an,cdv,ct,osl,rfl,l,c⟩,kp⟩⟩
 rw[List.append_nil]at hl ⊢
 obtain⟨kk,h1,h2⟩:=hb T kV doc pm an cdv ct us hl
 exact BindsTo.of_defaults rfl (hin _ _ d) rfl h1 h2
theorem iJ {x qual:Str}{st:Stmt}{ps:List Str}{sp:Sp}{k:Nat} (F:sN K x qual st) (X:K.In h) (G:h.Ns mainGlobals mg)
  (hb:∀ (T:Addr)(kV doc pm:Value)(an:Option Addr)(cdv ct:Value)(us:List Value),us.length+1=ps.length→∃ kk,bindArgs (PySem.W.fnOf x qual (aQ st) (aJ st) (ah st) (.ref T) kV doc pm an cdv ct) ⟨us,[]⟩=seqItems? (.ref T) >>= kk∧kk (some #[.none])=pure (ps.zip (us++[.none])))
  (ok:∀ f fd,FunD K x qual st f fd→FnOk P w K mg base (CXE P w) k f fd ps sp):qx P w K mg base k x ps [.non] sp:=by
 obtain⟨f,T,kV,doc,pm,an,cdv,ct,oc,od,osl,tc,td,n,tsl,a,l,c,kp,d⟩:=F
 refine⟨f,_,[.none],PySem.W.mg_of X G a,kp,fun s us hin hl=>?_,.cons rfl .nil,ok f _ ⟨⟨oc,od,.ref T,kV,doc,pm,an,cdv,ct,osl,rfl,l,c⟩,kp⟩⟩
 obtain⟨kk,h1,h2⟩:=hb T kV doc pm an cdv ct us (by rw[List.length_append]at hl;exact hl)
 exact BindsTo.of_defaults rfl (hin _ _ d) rfl h1 h2
def Xi0 (K:PySem.W.Frag)(C:Addr)(qual:Str)(st:Stmt):Prop:=∃ f fd,ExcMk K C f∧Fun K "__init__" qual st f fd
theorem xi0_mk {C:Addr}{qual:Str}{st:Stmt}{f:Addr}{oc:Value}{od an:Option Addr}{osl:Array (Option Value)}{kV doc pm cdv ct:Value} (a:PySem.W.findIn K (.ref C) "__init__"=some (some (.ref f))) (own:qP K C f=true) (i:PySem.W.isFn K (.ref f)=true) (kc:PySem.W.keepIn K (.ref C)=true)
  (l:K.lookup f=some ⟨oc,od,.func (PySem.W.fnOf "__init__" qual (aQ st) (aJ st) (ah st) .none kV doc pm an cdv ct),osl⟩)
  (c:PySem.W.codeIn K cdv qual=true) (k:PySem.W.keepIn K (.ref f)=true):Xi0 K C qual st:=⟨f,_,⟨own,i,kc⟩,mJ l c k⟩
theorem sj {C:Addr}{x qual:Str}{st:Stmt}{ps:List Str}{sp:Sp}{k:Nat} (F:uw K C x qual st) (cl:Cls K C)
  (hb:∀ (T:Addr)(t:Tok)(kV doc pm:Value)(an:Option Addr)(cdv ct:Value)(us:List Value),us.length+1=ps.length→∃ kk,bindArgs (PySem.W.fnOf x qual (aQ st) (aJ st) (ah st) (.ref T) kV doc pm an cdv ct) ⟨us,[]⟩=seqItems? (.ref T) >>= kk∧kk (some #[.int 1 t])=pure (ps.zip (us++[.int 1 t])))
  (ok:∀ f fd,FunD K x qual st f fd→FnOk P w K mg base (CXE P w) k f fd ps sp):uy P w K mg base k C x ps [.int 1] sp:=by
 obtain⟨f,T,t,kV,doc,pm,an,cdv,ct,oc,od,osl,tc,td,n,tsl,m,l,c,kp,d⟩:=F
 refine⟨f,_,[.int 1 t],cl,m,fun s us hin hl=>?_,.cons ⟨t,rfl⟩ .nil,ok f _ ⟨⟨oc,od,.ref T,kV,doc,pm,an,cdv,ct,osl,rfl,l,c⟩,kp⟩⟩
 obtain⟨kk,h1,h2⟩:=hb T t kV doc pm an cdv ct us (by rw[List.length_append]at hl;exact hl)
 exact BindsTo.of_defaults rfl (hin _ _ d) rfl h1 h2
theorem xi0_di {C:Addr}{x qual:Str}{st:Stmt}{ps:List Str}{sp:Sp}{k:Nat} (F:Xi0 K C qual st) (X:K.In h) (G:h.Ns mainGlobals mg) (aC:PySem.W.nsIn K mainGlobals x=some (some (.ref C)))
  (hb:∀ (kV doc pm:Value)(an:Option Addr)(cdv ct:Value)(us:List Value),us.length=ps.length→bindArgs (PySem.W.fnOf "__init__" qual (aQ st) (aJ st) (ah st) .none kV doc pm an cdv ct) ⟨us,[]⟩=pure (ps.zip us))
  (ok:∀ f fd,Fun K "__init__" qual st f fd→FnOk P w K mg base CX0 k f fd ps sp):DiX P w K mg base k x C ps sp:=by
 obtain⟨f,fd,m,F⟩:=F
 exact⟨f,fd,PySem.W.mg_of X G aC,m,F.binds hb,ok f fd F⟩
theorem b4 {x qual:Str}{st:Stmt}{ps:List Str}{sp:Sp}{k:Nat} (F:Fn0 K x qual st) (X:K.In h) (G:h.Ns mainGlobals mg)
  (hb:∀ (kV doc pm:Value)(an:Option Addr)(cdv ct:Value)(us:List Value),us.length=ps.length→bindArgs (PySem.W.fnOf x qual (aQ st) (aJ st) (ah st) .none kV doc pm an cdv ct) ⟨us,[]⟩=pure (ps.zip us))
  (ok:∀ f fd,Fun K x qual st f fd→FnOk P w K mg base CX0 k f fd ps sp):Df P w K mg base k x ps sp:=by
 obtain⟨f,fd,a,F⟩:=F
 exact⟨f,fd,PySem.W.mg_of X G a,F.kp,F.binds hb,ok f fd F⟩
theorem c8 {C:Addr}{x qual:Str}{st:Stmt}{ps:List Str}{sp:Sp}{k:Nat} (F:Me0 K C x qual st) (cl:Cls K C)
  (hb:∀ (kV doc pm:Value)(an:Option Addr)(cdv ct:Value)(us:List Value),us.length=ps.length→bindArgs (PySem.W.fnOf x qual (aQ st) (aJ st) (ah st) .none kV doc pm an cdv ct) ⟨us,[]⟩=pure (ps.zip us))
  (ok:∀ f fd,Fun K x qual st f fd→FnOk P w K mg base CX0 k f fd ps sp):Dm P w K mg base k C x ps sp:=by
 obtain⟨f,fd,m,F⟩:=F
 exact⟨f,fd,cl,m,F.binds hb,ok f fd F⟩
theorem mH {C:Addr}{x qual:Str}{st:Stmt}{ps:List Str}{sp:Sp}{k:Nat} (F:In0 K C qual st) (X:K.In h) (G:h.Ns mainGlobals mg) (aC:PySem.W.nsIn K mainGlobals x=some (some (.ref C)))
  (hb:∀ (kV doc pm:Value)(an:Option Addr)(cdv ct:Value)(us:List Value),us.length=ps.length→bindArgs (PySem.W.fnOf "__init__" qual (aQ st) (aJ st) (ah st) .none kV doc pm an cdv ct) ⟨us,[]⟩=pure (ps.zip us))
  (ok:∀ f fd,Fun K "__init__" qual st f fd→FnOk P w K mg base CX0 k f fd ps sp):Dk P w K mg base k x C ps sp:=by
 obtain⟨f,fd,m,F⟩:=F
 exact⟨f,fd,PySem.W.mg_of X G aC,m,F.binds hb,ok f fd F⟩
theorem fN {C:Addr}{x qual:Str}{st:Stmt}{ps:List Str}{sp:Sp}{k:Nat} (F:Me0 K C x qual st) (cl:Cls K C)
  (hb:∀ (kV doc pm:Value)(an:Option Addr)(cdv ct:Value)(us:List Value),us.length=ps.length→bindArgs (PySem.W.fnOf x qual (aQ st) (aJ st) (ah st) .none kV doc pm an cdv ct) ⟨us,[]⟩=pure (ps.zip us))
  (ok:∀ f fd,Fun K x qual st f fd→FnOk P w K mg base (CXE P w) k f fd ps sp):DmX P w K mg base k C x ps sp:=by
 obtain⟨f,fd,m,F⟩:=F
 exact⟨f,fd,cl,m,F.binds hb,ok f fd F⟩
theorem vn {C:Addr}{x qual:Str}{st:Stmt}{ps:List Str}{sp:Sp}{k:Nat} (F:In0 K C qual st) (X:K.In h) (G:h.Ns mainGlobals mg) (aC:PySem.W.nsIn K mainGlobals x=some (some (.ref C)))
  (hb:∀ (kV doc pm:Value)(an:Option Addr)(cdv ct:Value)(us:List Value),us.length=ps.length→bindArgs (PySem.W.fnOf "__init__" qual (aQ st) (aJ st) (ah st) .none kV doc pm an cdv ct) ⟨us,[]⟩=pure (ps.zip us))
  (ok:∀ f fd,Fun K "__init__" qual st f fd→FnOk P w K mg base (CXE P w) k f fd ps sp):DkX P w K mg base k x C ps sp:=by
 obtain⟨f,fd,m,F⟩:=F
 exact⟨f,fd,PySem.W.mg_of X G aC,m,F.binds hb,ok f fd F⟩
end
@[elab_as_elim] theorem eL {α:Type}{P:List α→Prop}:∀ (us:List α),us.length=1→(∀ a,P [a])→P us
 | [_],_,f=>f _
@[elab_as_elim] theorem d8 {α:Type}{P:List α→Prop}:∀ (us:List α),us.length=2→(∀ a b,P [a,b])→P us
 | [_,_],_,f=>f _ _
@[elab_as_elim] theorem vi {α:Type}{P:List α→Prop}:∀ (us:List α),us.length=3→(∀ a b c,P [a,b,c])→P us
 | [_,_,_],_,f=>f _ _ _
@[elab_as_elim] theorem vh {α:Type}{P:List α→Prop}:∀ (us:List α),us.length=4→(∀ a b c d,P [a,b,c,d])→P us
 | [_,_,_,_],_,f=>f _ _ _ _
@[elab_as_elim] theorem tX {α:Type}{P:List α→Prop}:∀ (us:List α),us.length=5→(∀ a b c d e,P [a,b,c,d,e])→P us
 | [_,_,_,_,_],_,f=>f _ _ _ _ _
@[elab_as_elim] theorem len6 {α:Type}{P:List α→Prop}:∀ (us:List α),us.length=6→(∀ a b c d e f,P [a,b,c,d,e,f])→P us
 | [_,_,_,_,_,_],_,f=>f _ _ _ _ _ _
theorem all_mk {l:PySem.W.OpenLaw}{w:World}{K:PySem.W.Frag}{h:Heap}{mg:Str→Option Value}{fa CN CP CH CL CF:Addr}{xNN xTk xOH xTM xIH xRM xNo xPr xNP:Addr}{t_LETTERS t_LONGEST_NAME t_MOST_POSTS t_MOST_LISTENERS t_MOST_TIES t_LONGEST_DELAY t_GREATEST_PRIME:Tok} (X:K.In h) (G:h.Ns mainGlobals mg) (hfa:mg "law"=some (.ref fa))
  (aCN:PySem.W.nsIn K mainGlobals "Net"=some (some (.ref CN)))
  (aCP:PySem.W.nsIn K mainGlobals "Post"=some (some (.ref CP)))
  (aCH:PySem.W.nsIn K mainGlobals "House"=some (some (.ref CH)))
  (aCL:PySem.W.nsIn K mainGlobals "Listener"=some (some (.ref CL)))
  (aCF:PySem.W.nsIn K mainGlobals "Field"=some (some (.ref CF)))
  (pgCN:PySem.W.plainGet K CN Str.empty=true)
  (hdCN:PySem.W.hasDictIn K CN=true)
  (poCN:PySem.W.plainOver K CN=true)
  (saCN:PySem.W.findIn K (.ref CN) "__setattr__"=some (some (.builtin "object.__setattr__")))
  (pgCP:PySem.W.plainGet K CP Str.empty=true)
  (hdCP:PySem.W.hasDictIn K CP=true)
  (poCP:PySem.W.plainOver K CP=true)
  (saCP:PySem.W.findIn K (.ref CP) "__setattr__"=some (some (.builtin "object.__setattr__")))
  (pgCH:PySem.W.plainGet K CH Str.empty=true)
  (hdCH:PySem.W.hasDictIn K CH=true)
  (poCH:PySem.W.plainOver K CH=true)
  (saCH:PySem.W.findIn K (.ref CH) "__setattr__"=some (some (.builtin "object.__setattr__")))
  (pgCL:PySem.W.plainGet K CL Str.empty=true)
  (hdCL:PySem.W.hasDictIn K CL=true)
  (poCL:PySem.W.plainOver K CL=true)
  (saCL:PySem.W.findIn K (.ref CL) "__setattr__"=some (some (.builtin "object.__setattr__")))
  (pgCF:PySem.W.plainGet K CF Str.empty=true)
  (hdCF:PySem.W.hasDictIn K CF=true)
  (poCF:PySem.W.plainOver K CF=true)
  (saCF:PySem.W.findIn K (.ref CF) "__setattr__"=some (some (.builtin "object.__setattr__")))
  (nCN_kept_posts:PySem.W.findIn K (.ref CN) "kept_posts"=some none)
  (nCN_kept_ties:PySem.W.findIn K (.ref CN) "kept_ties"=some none)
  (nCN_next_number:PySem.W.findIn K (.ref CN) "next_number"=some none)
  (nCP_name:PySem.W.findIn K (.ref CP) "name"=some none)
  (nCH_name:PySem.W.findIn K (.ref CH) "name"=some none)
  (nCL_name:PySem.W.findIn K (.ref CL) "name"=some none)
  (nCF_prime:PySem.W.findIn K (.ref CF) "prime"=some none)
  (e_NoName:PySem.W.nsIn K mainGlobals "NoName"=some (some (.ref xNN)))
  (xc_NoName:PySem.W.excIn K xNN bC "ValueError.__new__"=true)
  (e_Taken:PySem.W.nsIn K mainGlobals "Taken"=some (some (.ref xTk)))
  (xc_Taken:PySem.W.excIn K xTk bC "ValueError.__new__"=true)
  (e_OneHouse:PySem.W.nsIn K mainGlobals "OneHouse"=some (some (.ref xOH)))
  (xc_OneHouse:PySem.W.excIn K xOH bC "ValueError.__new__"=true)
  (e_TooMany:PySem.W.nsIn K mainGlobals "TooMany"=some (some (.ref xTM)))
  (xc_TooMany:PySem.W.excIn K xTM bC "ValueError.__new__"=true)
  (e_IntoHouse:PySem.W.nsIn K mainGlobals "IntoHouse"=some (some (.ref xIH)))
  (xc_IntoHouse:PySem.W.excIn K xIH bC "ValueError.__new__"=true)
  (e_RingMade:PySem.W.nsIn K mainGlobals "RingMade"=some (some (.ref xRM)))
  (xc_RingMade:PySem.W.excIn K xRM bC "ValueError.__new__"=true)
  (e_NoNumber:PySem.W.nsIn K mainGlobals "NoNumber"=some (some (.ref xNo)))
  (xc_NoNumber:PySem.W.excIn K xNo bC "ValueError.__new__"=true)
  (e_NoPrime:PySem.W.nsIn K mainGlobals "NoPrime"=some (some (.ref xPr)))
  (xc_NoPrime:PySem.W.excIn K xPr bC "ValueError.__new__"=true)
  (g_LETTERS:PySem.W.nsIn K mainGlobals "LETTERS"=some (some (.str "abcdefghijklmnopqrstuvwxyz" t_LETTERS)))
  (g_LONGEST_NAME:PySem.W.nsIn K mainGlobals "LONGEST_NAME"=some (some (.int 8 t_LONGEST_NAME)))
  (g_MOST_POSTS:PySem.W.nsIn K mainGlobals "MOST_POSTS"=some (some (.int 20 t_MOST_POSTS)))
  (g_MOST_LISTENERS:PySem.W.nsIn K mainGlobals "MOST_LISTENERS"=some (some (.int 8 t_MOST_LISTENERS)))
  (g_MOST_TIES:PySem.W.nsIn K mainGlobals "MOST_TIES"=some (some (.int 40 t_MOST_TIES)))
  (g_LONGEST_DELAY:PySem.W.nsIn K mainGlobals "LONGEST_DELAY"=some (some (.int 99 t_LONGEST_DELAY)))
  (g_GREATEST_PRIME:PySem.W.nsIn K mainGlobals "GREATEST_PRIME"=some (some (.int 1000000 t_GREATEST_PRIME)))
  (k_str_str:PySem.W.kitOne K (.type "str") (.type "str")=some true)
  (k_int_int:PySem.W.kitOne K (.type "int") (.type "int")=some true)
  (k_int_bool:PySem.W.kitOne K (.type "int") (.type "bool")=some false)
  (k_dict_dict:PySem.W.kitOne K (.type "dict") (.type "dict")=some true)
  (ne_ph:CP≠CH)
  (ne_pl:CP≠CL)
  (ne_hl:CH≠CL)
  (aNP:PySem.W.nsIn K mainGlobals "NoPost"=some (some (.ref xNP)))
  (np_sa:PySem.W.findIn K (.ref xNP) "__setattr__"=some (some (.builtin "object.__setattr__")))
  (np_ov:mK K xNP=true)
  (np_tk:PySem.W.takerIn K xNP "name"=some none)
  (np_hd:PySem.W.hasDictIn K xNP=true)
  (np_ga:PySem.W.findIn K (.ref xNP) "__getattribute__"=some (some (.builtin "BaseException.__getattribute__")))
  (np_gt:PySem.W.findIn K (.ref xNP) "__getattr__"=some none)
  (np_ec:PySem.W.findIn K (.ref xNP) "__class__"=some (some (.builtin "object.__class__")))
  (np_gg:PySem.W.specialIn K (.builtin "object.__class__") "__get__"=some (some (.builtin "getset_descriptor.__get__")))
  (np_tc:PySem.W.takesIn K (.builtin "object.__class__")=some true)
  (np_mo:PySem.W.mroIn K xNP (.type "object")=some true)
  (np_mb:PySem.W.mroIn K xNP (.type "BaseException")=some true)
  (np_na:PySem.W.findIn K (.ref xNP) "name"=some none)
  (np_em:PySem.W.exmOne K (.ref xNP) (.ref xNP)=some true)
  (z_len:PySem.W.nsIn K mainGlobals "len"=some none)
  (z_isinstance:PySem.W.nsIn K mainGlobals "isinstance"=some none)
  (z_str:PySem.W.nsIn K mainGlobals "str"=some none)
  (z_all:PySem.W.nsIn K mainGlobals "all"=some none)
  (z_list:PySem.W.nsIn K mainGlobals "list"=some none)
  (z_int:PySem.W.nsIn K mainGlobals "int"=some none)
  (z_bool:PySem.W.nsIn K mainGlobals "bool"=some none)
  (z_enumerate:PySem.W.nsIn K mainGlobals "enumerate"=some none)
  (z_range:PySem.W.nsIn K mainGlobals "range"=some none)
  (z_zip:PySem.W.nsIn K mainGlobals "zip"=some none)
  (z_sum:PySem.W.nsIn K mainGlobals "sum"=some none)
  (z_set:PySem.W.nsIn K mainGlobals "set"=some none)
  (z_dict:PySem.W.nsIn K mainGlobals "dict"=some none)
  (z_sorted:PySem.W.nsIn K mainGlobals "sorted"=some none)
  (z_reversed:PySem.W.nsIn K mainGlobals "reversed"=some none)
  (f0:Fn0 K "is_name" "is_name" io)
  (f1:Me0 K CP "reads" "Post.reads" cQ)
  (f2:Me0 K CH "reads" "Post.reads" cQ)
  (f3:Me0 K CL "reads" "Listener.reads" cc)
  (f4:Me0 K CP "hears" "Post.hears" cR)
  (f5:Me0 K CH "hears" "House.hears" dr)
  (f6:Me0 K CL "hears" "Post.hears" cR)
  (f7:In0 K CP "Post.__init__" bn)
  (f8:In0 K CH "Post.__init__" bn)
  (f9:In0 K CL "Post.__init__" bn)
  (f10:In0 K CN "Net.__init__" cZ)
  (f11:Me0 K CN "check_new_name" "Net.check_new_name" bz)
  (f12:Me0 K CN "listeners" "Net.listeners" cF)
  (f13:Me0 K CN "home" "Net.home" gA)
  (f14:Me0 K CN "put_in" "Net.put_in" dY)
  (f15:Me0 K CN "post" "Net.post" gy)
  (f16:Me0 K CN "listener" "Net.listener" cY)
  (f17:Me0 K CN "house" "Net.house" fc)
  (f18:Fn0 K "is_whole" "is_whole" gr)
  (f19:Fn0 K "is_delay" "is_delay" gv)
  (f20:Me0 K CN "ties" "Net.ties" gx)
  (f21:Fn0 K "led_to" "led_to" jB)
  (f22:Me0 K CN "check_there" "Net.check_there" bX)
  (f23:Me0 K CN "check_ends" "Net.check_ends" cb)
  (f24:uw K CN "tie" "Net.tie" fH)
  (f25:uw K CN "tie" "Net.tie" fH)
  (f26:Me0 K CN "into" "Net.into" gz)
  (f27:Me0 K CN "out_of" "Net.out_of" dZ)
  (f28:Fn0 K "first_ready" "first_ready" dm)
  (f29:Me0 K CN "ordered" "Net.ordered" dq)
  (f30:Fn0 K "mixing_ties" "mixing_ties" dl)
  (f31:Fn0 K "by_number" "by_number" fb)
  (f32:Fn0 K "is_prime" "is_prime" gu)
  (f33:In0 K CF "Field.__init__" pI)
  (f34:Me0 K CF "fit" "Field.fit" t5)
  (f35:Fn0 K "row_sum" "row_sum" ik)
  (f36:Fn0 K "column" "column" jC)
  (f37:Fn0 K "ones_row" "ones_row" gq)
  (f38:Fn0 K "ones" "ones" pH)
  (f39:Fn0 K "coming_in" "coming_in" eZ)
  (f40:Fn0 K "flow" "flow" pJ)
  (f41:Xi0 K xNP "NoPost.__init__" bW)
  (f42:sN K "sent" "sent" pF)
  (f43:sN K "carried" "carried" ip)
  (f44:sN K "heard" "heard" m5)
  (f45:Fn0 K "_law_cell_at" "_law_cell_at" gC)
  (f46:Fn0 K "_law_stream" "_law_stream" iq)
  (f47:Fn0 K "_law_into" "_law_into" m9)
  (f48:Fn0 K "_law_plan" "_law_plan" m8)
  (f49:Fn0 K "_law_rows" "_law_rows" m7)
  (f50:Fn0 K "_law_refused" "_law_refused" gB)
  (f51:Fn0 K "_law_net" "_law_net" pK)
  (f52:Fn0 K "_law_long_net" "_law_long_net" ff)
  (fl:Fn0 K "law" "law" t4):
  ∃ fd:FuncData,(∀ (s:Shared)(v:Value),BindsTo s fd ⟨[v],[]⟩ [("_law_script",v)])∧∀ base:Heap,K.In base→base.Ns mainGlobals mg→FnOk l.prog w K mg base CX0 8 fa fd ["_law_script"] (lV K):=by
 obtain⟨fL,fdL,aL,FL⟩:=fl
 have e:=hfa.symm.trans (PySem.W.mg_of X G aL)
 cases e
 have clCN:Cls K CN:=⟨pgCN,hdCN,poCN,saCN⟩
 have clCP:Cls K CP:=⟨pgCP,hdCP,poCP,saCP⟩
 have clCH:Cls K CH:=⟨pgCH,hdCH,poCH,saCH⟩
 have clCL:Cls K CL:=⟨pgCL,hdCL,poCL,saCL⟩
 have clCF:Cls K CF:=⟨pgCF,hdCF,poCF,saCF⟩
 have O:Cl.Ok K ⟨CN,CP,CH,CL⟩:=⟨clCN,clCP,clCH,clCL,nCN_kept_posts,nCN_kept_ties,nCN_next_number,nCP_name,nCH_name,nCL_name,ne_ph,ne_pl,ne_hl⟩
 have TL:TxtL mg:=⟨PySem.W.mg_none_of X G z_len,PySem.W.mg_none_of X G z_isinstance,PySem.W.mg_none_of X G z_str,PySem.W.mg_none_of X G z_all,PySem.W.mg_none_of X G z_list⟩
 have TG:TxtG mg:=⟨⟨_,PySem.W.mg_of X G g_LETTERS⟩,⟨_,PySem.W.mg_of X G g_LONGEST_NAME⟩,⟨_,PySem.W.mg_of X G g_MOST_POSTS⟩,⟨_,PySem.W.mg_of X G g_MOST_LISTENERS⟩⟩
 have TK:TxtK K:=⟨k_str_str⟩
 have TX:vE K mg ⟨xNN,xTk,xOH,xTM⟩:=⟨PySem.W.mg_of X G e_NoName,xc_NoName,PySem.W.mg_of X G e_Taken,xc_Taken,PySem.W.mg_of X G e_OneHouse,xc_OneHouse,PySem.W.mg_of X G e_TooMany,xc_TooMany⟩
 have TN:vF mg:=⟨PySem.W.mg_none_of X G z_isinstance,PySem.W.mg_none_of X G z_int,PySem.W.mg_none_of X G z_bool,PySem.W.mg_none_of X G z_len⟩
 have TH:TxtH mg:=⟨⟨_,PySem.W.mg_of X G g_MOST_TIES⟩,⟨_,PySem.W.mg_of X G g_LONGEST_DELAY⟩⟩
 have TI:TxtI K:=⟨k_int_int,k_int_bool⟩
 have TY:TxtY K mg ⟨xIH,xRM,xNo,xTM⟩:=⟨PySem.W.mg_of X G e_IntoHouse,xc_IntoHouse,PySem.W.mg_of X G e_RingMade,xc_RingMade,PySem.W.mg_of X G e_NoNumber,xc_NoNumber,PySem.W.mg_of X G e_TooMany,xc_TooMany⟩
 have TO:TxtO mg:=⟨PySem.W.mg_none_of X G z_len,PySem.W.mg_none_of X G z_all,PySem.W.mg_none_of X G z_dict⟩
 have TB:TxtB mg:=⟨PySem.W.mg_none_of X G z_dict,PySem.W.mg_none_of X G z_sorted⟩
 have TFi:Txt K mg CF:=⟨clCF,nCF_prime,PySem.W.mg_none_of X G z_range,PySem.W.mg_none_of X G z_zip,PySem.W.mg_none_of X G z_sum⟩
 have TPp:TxtP K mg CF xPr:=⟨clCF,nCF_prime,⟨_,PySem.W.mg_of X G g_GREATEST_PRIME⟩,PySem.W.mg_of X G e_NoPrime,xc_NoPrime⟩
 have EF:vH K xNP "name":=⟨np_sa,np_ov,np_tk,np_hd⟩
 have EA:vI K xNP "name":=⟨⟨np_ga,np_gt,np_ec,np_gg,np_tc,np_mo,np_mb,np_hd⟩,np_na⟩
 have TE_:TxtE K mg xNP:=⟨PySem.W.mg_of X G aNP,EA,np_em⟩
 have TR:TxtR mg:=⟨PySem.W.mg_none_of X G z_zip,PySem.W.mg_none_of X G z_range,PySem.W.mg_none_of X G z_list⟩
 have TQ:TxtQ mg:=⟨PySem.W.mg_none_of X G z_range,PySem.W.mg_none_of X G z_list,PySem.W.mg_none_of X G z_sorted,PySem.W.mg_none_of X G z_isinstance,PySem.W.mg_none_of X G z_dict,PySem.W.mg_none_of X G z_set,PySem.W.mg_none_of X G z_sum⟩
 have TA:sL mg:=⟨PySem.W.mg_none_of X G z_len,PySem.W.mg_none_of X G z_range,PySem.W.mg_none_of X G z_list,PySem.W.mg_none_of X G z_sorted,PySem.W.mg_none_of X G z_enumerate,PySem.W.mg_none_of X G z_reversed,PySem.W.mg_none_of X G z_isinstance,PySem.W.mg_none_of X G z_dict⟩
 refine⟨fdL,fun s v=>?_,fun base _ _=>?_⟩
 ·obtain⟨oc,od,kV,doc,pm,an,cdv,ct,osl,rfl,lk,hcd⟩:=FL.ex
  exact .of_eq rfl
 ·
  have D_is_name:Df l.prog w K mg base 1 "is_name" ["name"] gk:=b4 f0 X G (fun _ _ _ _ _ _ us hl=>eL us hl (fun _=>rfl)) (fun f fd F=>pS F TL TG TK)
  have R_Post:Dm l.prog w K mg base 1 CP "reads" ["self"] (bG ⟨CN,CP,CH,CL⟩ CP):=c8 f1 clCP (fun _ _ _ _ _ _ us hl=>eL us hl (fun _=>rfl)) (fun f fd F=>(fZ F).imp (fun vs H Q E h=>by unfold bG at h;rw[show decide ((CP:Addr)=(⟨CN,CP,CH,CL⟩:Cl).lstn)=false from fg O .post]at h;exact h))
  have R_House:Dm l.prog w K mg base 1 CH "reads" ["self"] (bG ⟨CN,CP,CH,CL⟩ CH):=c8 f2 clCH (fun _ _ _ _ _ _ us hl=>eL us hl (fun _=>rfl)) (fun f fd F=>(fZ F).imp (fun vs H Q E h=>by unfold bG at h;rw[show decide ((CH:Addr)=(⟨CN,CP,CH,CL⟩:Cl).lstn)=false from fg O .house]at h;exact h))
  have R_Listener:Dm l.prog w K mg base 1 CL "reads" ["self"] (bG ⟨CN,CP,CH,CL⟩ CL):=c8 f3 clCL (fun _ _ _ _ _ _ us hl=>eL us hl (fun _=>rfl)) (fun f fd F=>(hU F).imp (fun vs H Q E h=>by unfold bG at h;rw[show decide ((CL:Addr)=(⟨CN,CP,CH,CL⟩:Cl).lstn)=true from fg O .listener]at h;exact h))
  have H_Post:Dm l.prog w K mg base 1 CP "hears" ["self"] (bH ⟨CN,CP,CH,CL⟩ CP):=c8 f4 clCP (fun _ _ _ _ _ _ us hl=>eL us hl (fun _=>rfl)) (fun f fd F=>(g9 F).imp (fun vs H Q E h=>by unfold bH at h;rw[show (!decide ((CP:Addr)=(⟨CN,CP,CH,CL⟩:Cl).house))=true from fw O .post]at h;exact h))
  have H_House:Dm l.prog w K mg base 1 CH "hears" ["self"] (bH ⟨CN,CP,CH,CL⟩ CH):=c8 f5 clCH (fun _ _ _ _ _ _ us hl=>eL us hl (fun _=>rfl)) (fun f fd F=>(jR F).imp (fun vs H Q E h=>by unfold bH at h;rw[show (!decide ((CH:Addr)=(⟨CN,CP,CH,CL⟩:Cl).house))=false from fw O .house]at h;exact h))
  have H_Listener:Dm l.prog w K mg base 1 CL "hears" ["self"] (bH ⟨CN,CP,CH,CL⟩ CL):=c8 f6 clCL (fun _ _ _ _ _ _ us hl=>eL us hl (fun _=>rfl)) (fun f fd F=>(g9 F).imp (fun vs H Q E h=>by unfold bH at h;rw[show (!decide ((CL:Addr)=(⟨CN,CP,CH,CL⟩:Cl).house))=true from fw O .listener]at h;exact h))
  have D_Post:Dk l.prog w K mg base 1 "Post" CP ["self","name"] (cV ⟨CN,CP,CH,CL⟩):=mH f7 X G aCP (fun _ _ _ _ _ _ us hl=>d8 us hl (fun _ _=>rfl)) (fun f fd F=>eo F O)
  have D_House:Dk l.prog w K mg base 1 "House" CH ["self","name"] (cV ⟨CN,CP,CH,CL⟩):=mH f8 X G aCH (fun _ _ _ _ _ _ us hl=>d8 us hl (fun _ _=>rfl)) (fun f fd F=>eo F O)
  have D_Listener:Dk l.prog w K mg base 1 "Listener" CL ["self","name"] (cV ⟨CN,CP,CH,CL⟩):=mH f9 X G aCL (fun _ _ _ _ _ _ us hl=>d8 us hl (fun _ _=>rfl)) (fun f fd F=>eo F O)
  have D_Net:Dk l.prog w K mg base 1 "Net" CN ["self"] (gR ⟨CN,CP,CH,CL⟩):=mH f10 X G aCN (fun _ _ _ _ _ _ us hl=>eL us hl (fun _=>rfl)) (fun f fd F=>nS F O)
  have D_reads:∀ C,iL (⟨CN,CP,CH,CL⟩:Cl) C→Dm l.prog w K mg base 1 C "reads" ["self"] (bG ⟨CN,CP,CH,CL⟩ C):=by
   rintro _ ⟨k,rfl⟩
   cases k with
   | house=>exact R_House
   | listener=>exact R_Listener
   | post=>exact R_Post
  have D_hears:∀ C,iL (⟨CN,CP,CH,CL⟩:Cl) C→Dm l.prog w K mg base 1 C "hears" ["self"] (bH ⟨CN,CP,CH,CL⟩ C):=by
   rintro _ ⟨k,rfl⟩
   cases k with
   | house=>exact H_House
   | listener=>exact H_Listener
   | post=>exact H_Post
  have D_Net_check_new_name:DmX l.prog w K mg base 2 CN "check_new_name" ["self","name"] (jw ⟨CN,CP,CH,CL⟩ ⟨xNN,xTk,xOH,xTM⟩):=fN f11 clCN (fun _ _ _ _ _ _ us hl=>d8 us hl (fun _ _=>rfl)) (fun f fd F=>eK F O TX D_is_name)
  have D_Net_listeners:Dm l.prog w K mg base 2 CN "listeners" ["self"] (cM ⟨CN,CP,CH,CL⟩):=c8 f12 clCN (fun _ _ _ _ _ _ us hl=>eL us hl (fun _=>rfl)) (fun f fd F=>iD F O D_reads)
  have D_Net_home:Dm l.prog w K mg base 2 CN "home" ["self"] (je ⟨CN,CP,CH,CL⟩):=c8 f13 clCN (fun _ _ _ _ _ _ us hl=>eL us hl (fun _=>rfl)) (fun f fd F=>nU F O D_hears)
  have D_Net_put_in:DmX l.prog w K mg base 3 CN "put_in" ["self","post"] (cT ⟨CN,CP,CH,CL⟩ ⟨xNN,xTk,xOH,xTM⟩):=fN f14 clCN (fun _ _ _ _ _ _ us hl=>d8 us hl (fun _ _=>rfl)) (fun f fd F=>kI F O TL TG TX D_reads D_Net_listeners)
  have D_Net_post:DmX l.prog w K mg base 4 CN "post" ["self","name"] (cE ⟨CN,CP,CH,CL⟩ ⟨xNN,xTk,xOH,xTM⟩ .post):=fN f15 clCN (fun _ _ _ _ _ _ us hl=>d8 us hl (fun _ _=>rfl)) (fun f fd F=>nQ F O D_Net_check_new_name D_Net_put_in D_Post)
  have D_Net_listener:DmX l.prog w K mg base 4 CN "listener" ["self","name"] (cE ⟨CN,CP,CH,CL⟩ ⟨xNN,xTk,xOH,xTM⟩ .listener):=fN f16 clCN (fun _ _ _ _ _ _ us hl=>d8 us hl (fun _ _=>rfl)) (fun f fd F=>j4 F O D_Net_check_new_name D_Net_put_in D_Listener)
  have D_Net_house:DmX l.prog w K mg base 4 CN "house" ["self","name"] (cE ⟨CN,CP,CH,CL⟩ ⟨xNN,xTk,xOH,xTM⟩ .house):=fN f17 clCN (fun _ _ _ _ _ _ us hl=>d8 us hl (fun _ _=>rfl)) (fun f fd F=>mD F O TX D_Net_check_new_name D_Net_put_in D_Net_home D_House)
  have D_is_whole:Df l.prog w K mg base 1 "is_whole" ["number"] eQ:=b4 f18 X G (fun _ _ _ _ _ _ us hl=>eL us hl (fun _=>rfl)) (fun f fd F=>nK F TN TI)
  have D_is_delay:Df l.prog w K mg base 2 "is_delay" ["number"] eU:=b4 f19 X G (fun _ _ _ _ _ _ us hl=>eL us hl (fun _=>rfl)) (fun f fd F=>nM F TH D_is_whole)
  have D_Net_ties:Dm l.prog w K mg base 1 CN "ties" ["self"] (fD ⟨CN,CP,CH,CL⟩):=c8 f20 clCN (fun _ _ _ _ _ _ us hl=>eL us hl (fun _=>rfl)) (fun f fd F=>nO F O)
  have D_led_to:Df l.prog w K mg base 1 "led_to" ["ties","start"] i9:=b4 f21 X G (fun _ _ _ _ _ _ us hl=>d8 us hl (fun _ _=>rfl)) (fun f fd F=>rY F TN)
  have D_Net_check_there:Dm l.prog w K mg base 1 CN "check_there" ["self","name"] (eO ⟨CN,CP,CH,CL⟩):=c8 f22 clCN (fun _ _ _ _ _ _ us hl=>d8 us hl (fun _ _=>rfl)) (fun f fd F=>gG F O)
  have D_Net_check_ends:DmX l.prog w K mg base 2 CN "check_ends" ["self","one","other"] (lW ⟨CN,CP,CH,CL⟩ ⟨xIH,xRM,xNo,xTM⟩):=fN f23 clCN (fun _ _ _ _ _ _ us hl=>vi us hl (fun _ _ _=>rfl)) (fun f fd F=>gZ F O TY D_hears D_Net_check_there D_Net_ties D_led_to)
  have D_Net_tie:DmX l.prog w K mg base 3 CN "tie" ["self","one","other","delay"] (jv ⟨CN,CP,CH,CL⟩ ⟨xIH,xRM,xNo,xTM⟩):=tW f24 clCN (fun _ _ _ _ _ _ _ _ us hl=>vh us hl (fun _ _ _ _=>⟨_,rfl,rfl⟩)) (fun f fd F=>jP F O TN TH TY D_Net_check_ends D_is_delay)
  have D_Net_tied:uy l.prog w K mg base 3 CN "tie" ["self","one","other","delay"] [.int 1] (jv ⟨CN,CP,CH,CL⟩ ⟨xIH,xRM,xNo,xTM⟩):=sj f25 clCN (fun _ _ _ _ _ _ _ _ us hl=>vi us (Nat.succ.inj hl) (fun _ _ _=>⟨_,rfl,rfl⟩)) (fun f fd F=>jP F O TN TH TY D_Net_check_ends D_is_delay)
  have D_Net_into:Dm l.prog w K mg base 2 CN "into" ["self","name"] (dg ⟨CN,CP,CH,CL⟩ NS.into):=c8 f26 clCN (fun _ _ _ _ _ _ us hl=>d8 us hl (fun _ _=>rfl)) (fun f fd F=>nR F O D_Net_check_there D_Net_ties)
  have D_Net_out_of:Dm l.prog w K mg base 2 CN "out_of" ["self","name"] (dg ⟨CN,CP,CH,CL⟩ NS.outOf):=c8 f27 clCN (fun _ _ _ _ _ _ us hl=>d8 us hl (fun _ _=>rfl)) (fun f fd F=>kJ F O D_Net_check_there D_Net_ties)
  have D_first_ready:Df l.prog w K mg base 1 "first_ready" ["begins","told"] cW:=b4 f28 X G (fun _ _ _ _ _ _ us hl=>d8 us hl (fun _ _=>rfl)) (fun f fd F=>jM F TO)
  have D_Net_ordered:Dm l.prog w K mg base 2 CN "ordered" ["self"] (gj ⟨CN,CP,CH,CL⟩):=c8 f29 clCN (fun _ _ _ _ _ _ us hl=>eL us hl (fun _=>rfl)) (fun f fd F=>jQ F O TO D_Net_ties D_first_ready)
  have D_mixing_ties:Df l.prog w K mg base 3 "mixing_ties" ["net"] (fE ⟨CN,CP,CH,CL⟩):=b4 f30 X G (fun _ _ _ _ _ _ us hl=>eL us hl (fun _=>rfl)) (fun f fd F=>jL F O D_Net_home D_Net_ordered D_Net_into D_Net_out_of)
  have D_by_number:Df l.prog w K mg base 1 "by_number" ["told"] cN:=b4 f31 X G (fun _ _ _ _ _ _ us hl=>eL us hl (fun _=>rfl)) (fun f fd F=>mC F TB)
  have D_is_prime:Df l.prog w K mg base 1 "is_prime" ["number"] eR:=b4 f32 X G (fun _ _ _ _ _ _ us hl=>eL us hl (fun _=>rfl)) (fun f fd F=>nL F )
  have D_Field:DkX l.prog w K mg base 2 "Field" CF ["self","prime"] (jd CF xPr):=vn f33 X G aCF (fun _ _ _ _ _ _ us hl=>d8 us hl (fun _ _=>rfl)) (fun f fd F=>v9 F TPp D_is_prime)
  have D_Field_fit:Dm l.prog w K mg base 1 CF "fit" ["self","number"] (pA CF):=c8 f34 clCF (fun _ _ _ _ _ _ us hl=>d8 us hl (fun _ _=>rfl)) (fun f fd F=>ok_fit F TFi)
  have D_row_sum:Df l.prog w K mg base 3 "row_sum" ["field","one","other"] (dX CF):=b4 f35 X G (fun _ _ _ _ _ _ us hl=>vi us hl (fun _ _ _=>rfl)) (fun f fd F=>pR F TFi D_Field_fit)
  have D_column:Df l.prog w K mg base 1 "column" ["table","place"] ie:=b4 f36 X G (fun _ _ _ _ _ _ us hl=>d8 us hl (fun _ _=>rfl)) (fun f fd F=>rZ F )
  have D_ones_row:Df l.prog w K mg base 1 "ones_row" ["many","own"] eP:=b4 f37 X G (fun _ _ _ _ _ _ us hl=>d8 us hl (fun _ _=>rfl)) (fun f fd F=>nJ F TFi)
  have D_ones:Df l.prog w K mg base 2 "ones" ["many"] lU:=b4 f38 X G (fun _ _ _ _ _ _ us hl=>eL us hl (fun _=>rfl)) (fun f fd F=>v8 F TFi D_ones_row)
  have D_coming_in:Df l.prog w K mg base 1 "coming_in" ["message","mixed","carries"] fF:=b4 f39 X G (fun _ _ _ _ _ _ us hl=>vi us hl (fun _ _ _=>rfl)) (fun f fd F=>mB F )
  have D_flow:Df l.prog w K mg base 4 "flow" ["field","mixing","plan","message","fallen"] (jf CF):=b4 f40 X G (fun _ _ _ _ _ _ us hl=>tX us hl (fun _ _ _ _ _=>rfl)) (fun f fd F=>vc F D_row_sum D_coming_in D_by_number)
  have D_NoPost:DiX l.prog w K mg base 1 "NoPost" xNP ["self","name"] (ia xNP "name"):=xi0_di f41 X G aNP (fun _ _ _ _ _ _ us hl=>d8 us hl (fun _ _=>rfl)) (fun f fd F=>jO F EF)
  have D_sent:DfX l.prog w K mg base 5 "sent" ["net","plan","message","prime","fallen"] (jc ⟨CN,CP,CH,CL⟩):=kd f42 X G (fun _ _ _ _ _ _ _ us hl=>tX us hl (fun _ _ _ _ _=>⟨_,rfl,rfl⟩)) (fun f fd F=>qS F D_Field D_mixing_ties D_flow)
  have D_sentd:qx l.prog w K mg base 5 "sent" ["net","plan","message","prime","fallen"] [.non] (jc ⟨CN,CP,CH,CL⟩):=iJ f42 X G (fun _ _ _ _ _ _ _ us hl=>vh us (Nat.succ.inj hl) (fun _ _ _ _=>⟨_,rfl,rfl⟩)) (fun f fd F=>qS F D_Field D_mixing_ties D_flow)
  have D_carried:DfX l.prog w K mg base 5 "carried" ["net","plan","many","prime","fallen"] (ca ⟨CN,CP,CH,CL⟩):=kd f43 X G (fun _ _ _ _ _ _ _ us hl=>tX us hl (fun _ _ _ _ _=>⟨_,rfl,rfl⟩)) (fun f fd F=>jN F TB D_Field D_mixing_ties D_flow D_ones D_column D_by_number)
  have D_carriedd:qx l.prog w K mg base 5 "carried" ["net","plan","many","prime","fallen"] [.non] (ca ⟨CN,CP,CH,CL⟩):=iJ f43 X G (fun _ _ _ _ _ _ _ us hl=>vh us (Nat.succ.inj hl) (fun _ _ _ _=>⟨_,rfl,rfl⟩)) (fun f fd F=>jN F TB D_Field D_mixing_ties D_flow D_ones D_column D_by_number)
  have D_heard:DfX l.prog w K mg base 6 "heard" ["net","plan","many","prime","listener","fallen"] (eV ⟨CN,CP,CH,CL⟩ xNP):=kd f44 X G (fun _ _ _ _ _ _ _ us hl=>len6 us hl (fun _ _ _ _ _ _=>⟨_,rfl,rfl⟩)) (fun f fd F=>nN F D_NoPost D_Net_listeners D_Net_into D_carried)
  have D_heardd:qx l.prog w K mg base 6 "heard" ["net","plan","many","prime","listener","fallen"] [.non] (eV ⟨CN,CP,CH,CL⟩ xNP):=iJ f44 X G (fun _ _ _ _ _ _ _ us hl=>tX us (Nat.succ.inj hl) (fun _ _ _ _ _=>⟨_,rfl,rfl⟩)) (fun f fd F=>nN F D_NoPost D_Net_listeners D_Net_into D_carried)
  have D_Lcell_at:Df l.prog w K mg base 1 "_law_cell_at" ["_law_script","_law_k"] (eY K):=b4 f45 X G (fun _ _ _ _ _ _ us hl=>d8 us hl (fun _ _=>rfl)) (fun f fd F=>nW F TA)
  have D_Lstream:Df l.prog w K mg base 1 "_law_stream" ["_law_cell","_law_many"] cX:=b4 f46 X G (fun _ _ _ _ _ _ us hl=>d8 us hl (fun _ _=>rfl)) (fun f fd F=>pT F TA)
  have D_Linto:Df l.prog w K mg base 1 "_law_into" ["_law_ties","_law_name"] eX:=b4 f47 X G (fun _ _ _ _ _ _ us hl=>d8 us hl (fun _ _=>rfl)) (fun f fd F=>tR F )
  have D_Lplan:Df l.prog w K mg base 2 "_law_plan" ["_law_ties","_law_many","_law_prime","_law_cell"] jy:=b4 f48 X G (fun _ _ _ _ _ _ us hl=>vh us hl (fun _ _ _ _=>rfl)) (fun f fd F=>tQ F TA D_Lstream D_Linto)
  have D_Lrows:Df l.prog w K mg base 2 "_law_rows" ["_law_ties","_law_order","_law_plan_here","_law_many","_law_prime","_law_fallen"] jx:=b4 f49 X G (fun _ _ _ _ _ _ us hl=>len6 us hl (fun _ _ _ _ _ _=>rfl)) (fun f fd F=>tP F TR D_Linto)
  have D_Lrefused:Df l.prog w K mg base 7 "_law_refused" ["_law_net_here","_law_plan_here","_law_many","_law_prime","_law_name"] (eW ⟨CN,CP,CH,CL⟩):=b4 f50 X G (fun _ _ _ _ _ _ us hl=>tX us hl (fun _ _ _ _ _=>rfl)) (fun f fd F=>nV F TE_ D_heardd)
  have D_Lnet:Df l.prog w K mg base 5 "_law_net" ["_law_cell","_law_script"] (fG K ⟨CN,CP,CH,CL⟩):=b4 f51 X G (fun _ _ _ _ _ _ us hl=>d8 us hl (fun _ _=>rfl)) (fun f fd F=>vd F TA D_Net D_Lstream D_Net_house D_Net_listener D_Net_post D_Net_tied)
  have D_Llong_net:Df l.prog w K mg base 5 "_law_long_net" ["_law_cell","_law_script"] (fG K ⟨CN,CP,CH,CL⟩):=b4 f52 X G (fun _ _ _ _ _ _ us hl=>d8 us hl (fun _ _=>rfl)) (fun f fd F=>mE F TA D_Net D_Net_house D_Net_listener D_Net_post D_Net_tied)
  exact ok_law (c:=⟨CN,CP,CH,CL⟩) (NP:=xNP) FL TQ k_dict_dict D_Lcell_at D_Lstream D_Lnet D_Llong_net D_Linto D_Lplan D_Lrows D_Lrefused D_sent D_carried D_carriedd D_heard
theorem walk {l:PySem.W.OpenLaw}{q:Program}{loose:List Str}{XP:(Str→Option Value)→Heap→Prop}{YP:World→Heap→Prop}{d:DefRec}{K:Params→PySem.W.Frag} (hn:l.most=some 63) (hdf:d.params.defaults=[])
  (hY:∀ (w:World)(h:Heap),YP w h→(K w.params).In h)
  (F:∀ (w:World)(mg:Str→Option Value)(fa:Addr)(h:Heap),(K w.params).In h→h.Ns mainGlobals mg→mg d.name=some (.ref fa)→
   ∃ fd:FuncData,(∀ (s:Shared)(u:Value),BindsTo s fd ⟨[u],[]⟩ [("_law_script",u)])∧∀ base:Heap,(K w.params).In base→base.Ns mainGlobals mg→FnOk l.prog w (K w.params) mg base CX0 8 fa fd ["_law_script"] (lV (K w.params))):
  PySem.W.WalkO q loose XP YP l.row.toRowW d [] (fun f vs=>PySem.call f vs):=
 L2.walk_of (n:=63) (k:=8) (x:="_law_script") (CX:=fun _=>CX0) (sp:=fun w=>lV (K w.params)) hn (by decide) hdf ⟨rfl,by decide,by decide⟩ hY F (fun _ _ a ns hl _ hS=>⟨a,ns,rfl,hS,hl,fun _=>rfl⟩) fun _ _ _ _ _ z=>z
end K42
open PySem PySem.W PyProof.Rows L2
set_option maxRecDepth 100000 in
set_option maxHeartbeats 0 in
theorem PySem.Challenge.cw_mixposts_k42_what_ties_carry_holds : PySem.Challenge.rw_mixposts_k42_what_ties_carry.Holds := by
  w_on; o_law; k_head; (case hw => w_witness2)
  k_fill
  refine K42.walk (l := PySem.Challenge.rw_mixposts_k42_what_ties_carry) rfl rfl (fun w h Y => PySem.W.kIn_of Y) ?F
  case F =>
    intro w mg fa h KX G hmg
    refine' K42.all_mk KX G hmg ?aCN ?aCP ?aCH ?aCL ?aCF ?pgCN ?hdCN ?poCN ?saCN ?pgCP ?hdCP ?poCP ?saCP ?pgCH ?hdCH ?poCH ?saCH ?pgCL ?hdCL ?poCL ?saCL ?pgCF ?hdCF ?poCF ?saCF ?nCN_kept_posts ?nCN_kept_ties ?nCN_next_number ?nCP_name ?nCH_name ?nCL_name ?nCF_prime ?e_NoName ?xc_NoName ?e_Taken ?xc_Taken ?e_OneHouse ?xc_OneHouse ?e_TooMany ?xc_TooMany ?e_IntoHouse ?xc_IntoHouse ?e_RingMade ?xc_RingMade ?e_NoNumber ?xc_NoNumber ?e_NoPrime ?xc_NoPrime ?g_LETTERS ?g_LONGEST_NAME ?g_MOST_POSTS ?g_MOST_LISTENERS ?g_MOST_TIES ?g_LONGEST_DELAY ?g_GREATEST_PRIME ?k_str_str ?k_int_int ?k_int_bool ?k_dict_dict ?ne_ph ?ne_pl ?ne_hl ?aNP ?np_sa ?np_ov ?np_tk ?np_hd ?np_ga ?np_gt ?np_ec ?np_gg ?np_tc ?np_mo ?np_mb ?np_na ?np_em ?z_len ?z_isinstance ?z_str ?z_all ?z_list ?z_int ?z_bool ?z_enumerate ?z_range ?z_zip ?z_sum ?z_set ?z_dict ?z_sorted ?z_reversed (aZ ?A0 ?L0 ?C0 ?K0) (bf ?A1 ?I1 ?L1 ?C1 ?K1) (bf ?A2 ?I2 ?L2 ?C2 ?K2) (bf ?A3 ?I3 ?L3 ?C3 ?K3) (bf ?A4 ?I4 ?L4 ?C4 ?K4) (bf ?A5 ?I5 ?L5 ?C5 ?K5) (bf ?A6 ?I6 ?L6 ?C6 ?K6) (K42.in0_mk ?M7 ?A7 ?I7 ?KC7 ?L7 ?C7 ?K7) (K42.in0_mk ?M8 ?A8 ?I8 ?KC8 ?L8 ?C8 ?K8) (K42.in0_mk ?M9 ?A9 ?I9 ?KC9 ?L9 ?C9 ?K9) (K42.in0_mk ?M10 ?A10 ?I10 ?KC10 ?L10 ?C10 ?K10) (bf ?A11 ?I11 ?L11 ?C11 ?K11) (bf ?A12 ?I12 ?L12 ?C12 ?K12) (bf ?A13 ?I13 ?L13 ?C13 ?K13) (bf ?A14 ?I14 ?L14 ?C14 ?K14) (bf ?A15 ?I15 ?L15 ?C15 ?K15) (bf ?A16 ?I16 ?L16 ?C16 ?K16) (bf ?A17 ?I17 ?L17 ?C17 ?K17) (aZ ?A18 ?L18 ?C18 ?K18) (aZ ?A19 ?L19 ?C19 ?K19) (bf ?A20 ?I20 ?L20 ?C20 ?K20) (aZ ?A21 ?L21 ?C21 ?K21) (bf ?A22 ?I22 ?L22 ?C22 ?K22) (bf ?A23 ?I23 ?L23 ?C23 ?K23) (K42.meD0_mk ?A24 ?I24 ?L24 ?C24 ?K24 ?D24) (K42.meD0_mk ?A25 ?I25 ?L25 ?C25 ?K25 ?D25) (bf ?A26 ?I26 ?L26 ?C26 ?K26) (bf ?A27 ?I27 ?L27 ?C27 ?K27) (aZ ?A28 ?L28 ?C28 ?K28) (bf ?A29 ?I29 ?L29 ?C29 ?K29) (aZ ?A30 ?L30 ?C30 ?K30) (aZ ?A31 ?L31 ?C31 ?K31) (aZ ?A32 ?L32 ?C32 ?K32) (K42.in0_mk ?M33 ?A33 ?I33 ?KC33 ?L33 ?C33 ?K33) (bf ?A34 ?I34 ?L34 ?C34 ?K34) (aZ ?A35 ?L35 ?C35 ?K35) (aZ ?A36 ?L36 ?C36 ?K36) (aZ ?A37 ?L37 ?C37 ?K37) (aZ ?A38 ?L38 ?C38 ?K38) (aZ ?A39 ?L39 ?C39 ?K39) (aZ ?A40 ?L40 ?C40 ?K40) (K42.xi0_mk ?A41 ?O41 ?I41 ?KC41 ?L41 ?C41 ?K41) (K42.fnD0_mk ?A42 ?L42 ?C42 ?K42 ?D42) (K42.fnD0_mk ?A43 ?L43 ?C43 ?K43 ?D43) (K42.fnD0_mk ?A44 ?L44 ?C44 ?K44 ?D44) (aZ ?A45 ?L45 ?C45 ?K45) (aZ ?A46 ?L46 ?C46 ?K46) (aZ ?A47 ?L47 ?C47 ?K47) (aZ ?A48 ?L48 ?C48 ?K48) (aZ ?A49 ?L49 ?C49 ?K49) (aZ ?A50 ?L50 ?C50 ?K50) (aZ ?A51 ?L51 ?C51 ?K51) (aZ ?A52 ?L52 ?C52 ?K52) (aZ ?al ?ll ?cl ?kl)
    (case aCN | aCP | aCH | aCL | aCF | pgCN | hdCN | poCN | saCN | pgCP | hdCP | poCP | saCP | pgCH | hdCH | poCH | saCH | pgCL | hdCL | poCL | saCL | pgCF | hdCF | poCF | saCF | nCN_kept_posts | nCN_kept_ties | nCN_next_number | nCP_name | nCH_name | nCL_name | nCF_prime | e_NoName => first | k_is | kit_is)
    (case xc_NoName => k_exc)
    (case e_Taken => first | k_is | kit_is)
    (case xc_Taken => k_exc)
    (case e_OneHouse => first | k_is | kit_is)
    (case xc_OneHouse => k_exc)
    (case e_TooMany => first | k_is | kit_is)
    (case xc_TooMany => k_exc)
    (case e_IntoHouse => first | k_is | kit_is)
    (case xc_IntoHouse => k_exc)
    (case e_RingMade => first | k_is | kit_is)
    (case xc_RingMade => k_exc)
    (case e_NoNumber => first | k_is | kit_is)
    (case xc_NoNumber => k_exc)
    (case e_NoPrime => first | k_is | kit_is)
    (case xc_NoPrime => k_exc)
    (case g_LETTERS | g_LONGEST_NAME | g_MOST_POSTS | g_MOST_LISTENERS | g_MOST_TIES | g_LONGEST_DELAY | g_GREATEST_PRIME | k_str_str | k_int_int | k_int_bool | k_dict_dict => first | k_is | kit_is)
    (case ne_ph | ne_pl | ne_hl => first | decide | omega | (intro h; cases h))
    (case aNP | np_sa => first | k_is | kit_is)
    (case np_ov => first | kernel_rfl | rfl)
    (case np_tk => first | k_is | kit_is | kernel_rfl)
    (case np_hd | np_ga | np_gt | np_ec | np_gg | np_tc | np_mo | np_mb | np_na => first | k_is | kit_is)
    (case np_em => kts_exm)
    (case z_len | z_isinstance | z_str | z_all | z_list | z_int | z_bool | z_enumerate | z_range | z_zip | z_sum | z_set | z_dict | z_sorted | z_reversed | A0 | L0 | C0 | K0 | A1 | I1 | L1 | C1 | K1 | A2 | I2 | L2 | C2 | K2 | A3 | I3 | L3 | C3 | K3 | A4 | I4 | L4 | C4 | K4 | A5 | I5 | L5 | C5 | K5 | A6 | I6 | L6 | C6 | K6 | A7 | M7 | I7 | KC7 | L7 | C7 | K7 | A8 | M8 | I8 | KC8 | L8 | C8 | K8 | A9 | M9 | I9 | KC9 | L9 | C9 | K9 | A10 | M10 | I10 | KC10 | L10 | C10 | K10 | A11 | I11 | L11 | C11 | K11 | A12 | I12 | L12 | C12 | K12 | A13 | I13 | L13 | C13 | K13 | A14 | I14 | L14 | C14 | K14 | A15 | I15 | L15 | C15 | K15 | A16 | I16 | L16 | C16 | K16 | A17 | I17 | L17 | C17 | K17 | A18 | L18 | C18 | K18 | A19 | L19 | C19 | K19 | A20 | I20 | L20 | C20 | K20 | A21 | L21 | C21 | K21 | A22 | I22 | L22 | C22 | K22 | A23 | I23 | L23 | C23 | K23 | A24 | I24 | L24 | C24 | K24 | D24 | A25 | I25 | L25 | C25 | K25 | D25 | A26 | I26 | L26 | C26 | K26 | A27 | I27 | L27 | C27 | K27 | A28 | L28 | C28 | K28 | A29 | I29 | L29 | C29 | K29 | A30 | L30 | C30 | K30 | A31 | L31 | C31 | K31 | A32 | L32 | C32 | K32 | A33 | M33 | I33 | KC33 | L33 | C33 | K33 | A34 | I34 | L34 | C34 | K34 | A35 | L35 | C35 | K35 | A36 | L36 | C36 | K36 | A37 | L37 | C37 | K37 | A38 | L38 | C38 | K38 | A39 | L39 | C39 | K39 | A40 | L40 | C40 | K40 | A41 => first | k_is | kit_is)
    (case O41 => first | kernel_rfl | rfl)
    (case I41 | KC41 | L41 | C41 | K41 | A42 | L42 | C42 | K42 | D42 | A43 | L43 | C43 | K43 | D43 | A44 | L44 | C44 | K44 | D44 | A45 | L45 | C45 | K45 | A46 | L46 | C46 | K46 | A47 | L47 | C47 | K47 | A48 | L48 | C48 | K48 | A49 | L49 | C49 | K49 | A50 | L50 | C50 | K50 | A51 | L51 | C51 | K51 | A52 | L52 | C52 | K52 | al | ll | cl | kl => first | k_is | kit_is)

