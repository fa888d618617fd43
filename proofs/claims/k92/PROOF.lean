import PyProof.Rows.All
import Wide.All
import KE.KItem
import KE.RegKTryMore
import KE.RegKIsAll
import KE.KNestM
import KE.KTopLam
import Wide.FinOn
import Lean
import PyProof.EqAt
import PyProof.EqKinds
import PyProof.TupleCall
import PyProof.ZipIter
import PyProof.NeKinds
import PySem.Challenge.RW_mixposts_k92_whole_a_cut_is_too_narrow
import PyProof.Logic
import PyProof.StationsW
import PyProof.ExcBaseAll.ValueError
import PyProof.ExcInit
import PyProof.ExcClass2
import PyProof.InstStoreFacts
import PyProof.ExcAttrAll.ValueError
import KE.KDictList
import PyProof.StrWalks
import PyProof.ConsumeWalk
import PyProof.EnumFor
import PyProof.EnumStmt
import PyProof.StrLawsIdx
import PyProof.SliceStr2
import PyProof.MeetsStr
import PyProof.FactsAll.str_5
import PyProof.StrBlockL
import PyProof.StrLawsTight
import PyProof.FitsReplace
import PyProof.Rows.StrItems
import KE.KIntText
import KE.KDictOf
import PyProof.AttrMissHeap
import KE.KDictSum
import PyProof.Rows.SortWalk
import PyProof.FactsAll.zip
import PyProof.SetKind
import PyProof.SetNew
import PyProof.SetRoads
import PyProof.CollectWalk
import PyProof.Rows.TupIn
import PyProof.DictStraight
import PyProof.Rows.SetFrom
import PyProof.WalkLemmas
import KE.KListMore
import PyProof.SeqI3
set_option Elab.async false
set_option linter.all false
set_option maxRecDepth 100000
set_option maxHeartbeats 4000000
set_option autoImplicit true
set_option compiler.extract_closed false
set_option genSizeOf false
section
open Lean in
local macro_rules|`(command|lay_quick x)=>do
 let t:=`topOfIt
 let ns:=(List.range 1130).map (λi=>t.str s!"o_{i}")++[49,78,93,108,123,138,153,168,183,198,213,235,257,279,320,334,392,428,464,686,695,760,836,916,991,1043,1118].map (λi:Nat=>t.str s!"sts_{i}")++[t.str "heap_39",t.str "view_39",`PySem.Challenge.pw_mixposts_k92_whole_a_cut_is_too_narrow]
 return mkNullNode (←ns.toArray.mapM λn=>do return (←`(command|theorem $(mkIdent (.str `PySem.W.Fast s!"tw{n.hash}")):ident:True:=trivial)).raw)
lay_quick x
open PySem PySem.W PyProof.Rows
set_option maxHeartbeats 0
open_top topOfIt for PySem.Challenge.rw_mixposts_k92_whole_a_cut_is_too_narrow
end
abbrev DF:=@List.getElem?_eq_getElem
abbrev DG:=@List.getD_eq_getElem?_getD
abbrev DH:=@List.length_map
abbrev DI:=@List.mem_map
abbrev DJ:=@List.getElem?_eq_some_iff
abbrev DK:=@PySem.wpAny_bind
abbrev DL:=@List.map_map
abbrev DM:=@decide_eq_true
abbrev DN:=@List.getElem?_map
abbrev DO:=@List.mem_of_getElem?
abbrev DP:=@List.map_append
abbrev DQ:=@decide_eq_false
abbrev DS:=@List.mem_map_of_mem
abbrev DT:=@List.length_append
abbrev DU:=@PySem.Heap.get?_push_of_some
abbrev DV:=@Nat.le_refl
abbrev DW:=@PySem.wpAny_pure
abbrev DX:=@List.map_cons
abbrev DY:=@List.mem_filter
abbrev DZ:=@of_decide_eq_true
abbrev E1:=@PySem.PassesOwn.never
abbrev E2:=@PySem.W.mg_none_of
abbrev E3:=@List.mem_cons
abbrev E4:=@List.length_take
abbrev E5:=@List.mem_singleton
abbrev E6:=@List.mem_cons_of_mem
abbrev E7:=@List.mem_cons_self
abbrev E8:=@PySem.Heap.lt_size
abbrev E9:=@List.map_congr_left
abbrev Ea:=@List.mem_append
abbrev Eb:=@PySem.Heap.get?_push_size
abbrev Ec:=@List.mem_append_right
abbrev Ed:=@List.getElem?_eq_none
abbrev Ee:=@List.size_toArray
abbrev Ef:=@Bool.false_ne_true
abbrev Eg:=@List.mem_range
abbrev Eh:=@List.length_filter_le
abbrev Ei:=@Nat.le_trans
abbrev Ej:=@List.nodup_append
abbrev Ek:=@PySem.F.plainAttrs_list
abbrev El:=@List.append_nil
abbrev Em:=@List.getElem?_append_left
abbrev Eo:=@PySem.F.type_list_append
abbrev Ep:=@PySem.F.slot_list_append
abbrev Er:=@List.length_range
abbrev Es:=@List.getElem?_append_right
abbrev Et:=@List.take_length
abbrev Eu:=@List.length_cons
abbrev Ew:=@List.mem_append_left
abbrev Ex:=@List.nodup_cons
abbrev Ey:=@Nat.lt_of_lt_of_le
abbrev Ez:=@List.append_assoc
abbrev EA:=@List.mem_iff_getElem
abbrev EB:=@List.getElem_mem
abbrev EC:=@Int.emod_lt_of_pos
abbrev ED:=@List.mem_of_find?_eq_some
abbrev EE:=@Nat.zero_le
abbrev EF:=@List.take_append_drop
abbrev EG:=@Option.map_eq_some_iff
abbrev EH:=@Int.fmod_eq_emod_of_nonneg
abbrev EI:=@List.length_singleton
abbrev EJ:=@List.not_mem_nil
abbrev EK:=@List.getElem?_take_of_lt
abbrev EL:=@Nat.ne_of_lt
abbrev EM:=@Int.emod_nonneg
abbrev EN:=@Int.dvd_mul_of_dvd_right
abbrev EO:=@List.find?_cons
abbrev ER:=@Int.dvd_of_emod_eq_zero
abbrev ES:=@List.mem_zipIdx_iff_getElem?
abbrev ET:=@List.filter_eq_nil_iff
abbrev EU:=@List.find?_eq_none
abbrev EV:=@List.flatMap_append
abbrev EW:=@List.nil_append
abbrev EX:=@Nat.lt_succ_self
abbrev EY:=@Int.mul_assoc
abbrev EZ:=@List.filter_cons
abbrev F5:=@List.eq_of_mem_replicate
abbrev F6:=@Bool.and_eq_true
abbrev F7:=@PyProof.Rows.callWith_type1
abbrev F8:=@List.take_add_one
abbrev F9:=@Int.emod_eq_of_lt
abbrev Fb:=@List.map_uncurry_zip_eq_zipWith
abbrev Fc:=@Nat.lt_irrefl
abbrev Fd:=@List.length_zip
abbrev Fe:=@Bool.eq_iff_iff
abbrev Ff:=@List.take_of_length_le
abbrev Fg:=@Array.getElem?_eq_getElem
abbrev Fh:=@List.getElem?_range
abbrev Fj:=@List.mem_iff_getElem?
abbrev Fm:=@List.getElem?_zipWith
abbrev Fn:=@PySem.wpAny_holding
abbrev Fo:=@PySem.W.mg_of
abbrev Fp:=@Option.isSome_iff_exists
abbrev Fq:=@PySem.W.kia_one
abbrev Fs:=@List.all_eq_true
abbrev Ft:=@List.nodup_nil
abbrev Fu:=@List.map_nil
abbrev Fv:=@Int.mul_comm
abbrev Fw:=@beq_eq_false_iff_ne
abbrev Fx:=@List.replicate_succ
abbrev Fy:=@List.find?_some
abbrev FA:=@Int.emod_add_mul_ediv
abbrev FC:=@decide_eq_true_iff
abbrev FD:=@decide_eq_decide
abbrev FE:=@List.mem_flatMap
abbrev FF:=@List.filter_append
abbrev FG:=@PySem.wpAny_truthy_bool
abbrev FH:=@Int.emod_eq_zero_of_dvd
abbrev FI:=@Int.emod_eq_emod_iff_emod_sub_eq_zero
abbrev FJ:=@PySem.wpAny_mono
abbrev FK:=@beq_iff_eq
abbrev FN:=@True.intro
abbrev FO:=@List.of_mem_zip
abbrev FP:=@List.getElem_of_mem
abbrev FQ:=@Nat.ne_of_gt
abbrev FR:=@List.map_take
abbrev FT:=@Int.dvd_add
abbrev FU:=@PySem.wpAny_Call_Name_kw
abbrev FV:=@List.length_replicate
abbrev FW:=@Array.getElem?_toList
abbrev FX:=@List.drop_eq_getElem_cons
abbrev FY:=@List.length_nil
abbrev FZ:=@decide_eq_true_eq
abbrev G9:=@List.pairwise_map
abbrev Gd:=@List.mem_erase_of_ne
abbrev Ge:=@List.getElem?_set
abbrev Gf:=@Int.dvd_sub
abbrev Gg:=@List.length_erase_of_mem
abbrev Gh:=@List.filter_sublist
abbrev Gi:=@PySem.wpAny_callSpecial?_slot
abbrev Gj:=@List.take_zero
abbrev Gk:=@List.lookup_cons
abbrev Gm:=@List.length_eq_zero_iff
abbrev Gn:=@PySem.wpAny_typeNameOfWhole_keyiter
abbrev Gp:=@Int.mul_le_mul_of_nonneg_left
abbrev Gq:=@List.zipIdx_append
abbrev Gr:=@List.getElem?_set_self
abbrev Gs:=@List.getElem?_drop
abbrev Gu:=@Bool.false_eq_true
abbrev Gv:=@PySem.wpAny_passesOwn
abbrev Gw:=@List.foldl_cons
abbrev Gx:=@PySem.F.slot_dict_keyiterator_next
abbrev Gy:=@Bool.or_eq_true
abbrev Gz:=@List.any_cons
abbrev GA:=@List.flatten_cons
abbrev GB:=@List.ext_getElem?
abbrev GC:=@Int.toNat_natCast
abbrev GD:=@List.mem_of_mem_take
abbrev GF:=@List.getElem?_set_ne
abbrev GG:=@PySem.Heap.size_push
abbrev GH:=@PySem.wpAny_call_entry
abbrev GI:=@List.length_drop
abbrev GJ:=@List.mem_take_iff_getElem
abbrev GK:=@PySem.mem_of_lookup
abbrev GL:=@Array.length_toList
abbrev GN:=@List.getElem?_replicate
abbrev GO:=@Int.dvd_mul_of_dvd_left
abbrev GP:=@PySem.wpAny_pyIter_list
abbrev GQ:=@PySem.wpAny_newObj_type
abbrev GR:=@if_false
abbrev GS:=@Option.isSome_map
abbrev GU:=@Nat.le_of_lt
abbrev GV:=@List.length_pos_of_mem
abbrev GW:=@List.forIn_nil
abbrev GX:=@List.flatMap_cons
abbrev GY:=@List.find?_isSome
abbrev GZ:=@List.find?_append
abbrev Ha:=@PySem.Calls.callWith_builtin
abbrev Hb:=@PySem.wpAny_notOrdered_dict
abbrev Hc:=@List.append_inj'
abbrev Hd:=@List.Sublist.map
abbrev He:=@List.map_drop
abbrev Hf:=@Int.le_of_dvd
abbrev Hg:=@or_false
abbrev Hh:=@List.take_append_of_le_length
abbrev Hi:=@List.mem_of_mem_drop
abbrev Hk:=@List.getElem_zipWith
abbrev Hl:=@List.eq_nil_of_length_eq_zero
abbrev Hm:=@Int.sub_mul
abbrev Hn:=@PySem.wpAny_execs_nil
abbrev Ho:=@Nat.not_lt_zero
abbrev Hq:=@List.range_succ
abbrev Hr:=@List.forIn_cons
abbrev Hs:=@List.length_zipWith
abbrev Ht:=@List.filter_eq_self
abbrev Hu:=@List.filterMap_cons
abbrev Hv:=@PySem.BindsTo.of_defaults
abbrev Hw:=@List.all_map
abbrev Hx:=@Int.zero_mul
abbrev Hy:=@PySem.tupleKind_room_in1
abbrev Hz:=@PySem.call_meets
abbrev HA:=@Nat.lt_of_le_of_lt
abbrev HB:=@List.zip_cons_cons
abbrev HD:=@PySem.Code.quiet_builtin
abbrev HE:=@List.getElem?_zip_eq_some
abbrev HF:=@PySem.wpAny_field
abbrev HG:=@PySem.wpAny_dictEntries
abbrev HH:=@Nat.lt_succ_of_lt
abbrev HI:=@List.filter_congr
abbrev HJ:=@Int.mul_one
abbrev HK:=@Int.mul_add
namespace L2
open PySem PySem.Spec PyProof.Rows
abbrev Key:=Sum Int Str
noncomputable def qX:Key->Value->Bool
 | .inl k,v=>Value.isInt k v
 | .inr x,v=>Value.isStrOf x v
noncomputable def a1H (w:World):Key->Int
 | .inl k=>hashInt k
 | .inr x=>hashStr w x
theorem bc:∀ {k:Key}{v:Value},qX k v=true->(∃ i t,k=Sum.inl i/\v=Value.int i t)\/(∃ x t,k=Sum.inr x/\v=Value.str x t)
 | .inl i,v,h=>by obtain⟨t,e⟩:=Value.isInt_shape h;exact .inl ⟨i,t,rfl,e⟩
 | .inr x,v,h=>by obtain⟨t,e⟩:=Value.isStrOf_shape h;exact .inr ⟨x,t,rfl,e⟩
theorem zT (i:Int)(t:Tok):qX (.inl i) (.int i t)=true:=by simp[qX,Value.isInt]
theorem zS (x:Str)(t:Tok):qX (.inr x) (.str x t)=true:=by simp[qX,Value.isStrOf]
theorem Vy (a b:Int):decide ((Sum.inl a:Key)=Sum.inl b)=(a==b):=by
 by_cases e:a=b
 ·subst e;simp
 ·have h:¬ (Sum.inl a:Key)=Sum.inl b:=λq=>e<|Sum.inl.inj q;rw[DQ h];exact (Fw.mpr e).symm
theorem Vv (a b:Str):decide ((Sum.inr a:Key)=Sum.inr b)=decide (a=b):=by
 by_cases e:a=b
 ·subst e;simp
 ·have h:¬ (Sum.inr a:Key)=Sum.inr b:=λq=>e<|Sum.inr.inj q;rw[DQ h,DQ e]
theorem Vx (a:Int)(b:Str):decide ((Sum.inl a:Key)=Sum.inr b)=false:=DQ (λq=>nomatch q)
theorem Vw (a:Str)(b:Int):decide ((Sum.inr a:Key)=Sum.inl b)=false:=DQ (λq=>nomatch q)
abbrev _root_.É:=Program
noncomputable def aM (prog:É)(w:World):PySem.KeyKind prog w Key where
 is:=qX
 hash:=a1H w
 inj:=λv a b ha hb=>by
  rcases bc ha with⟨i,t,rfl,rfl⟩|⟨x,t,rfl,rfl⟩
  ·rcases bc hb with⟨j,u,rfl,e⟩|⟨y,u,rfl,e⟩
   ·injection e with e1 _;rw[e1]
   ·exact nomatch e
  ·rcases bc hb with⟨j,u,rfl,e⟩|⟨y,u,rfl,e⟩
   ·exact nomatch e
   ·injection e with e1 _;rw[e1]
 byValue:=λk v h=>by
  rcases bc h with⟨i,t,rfl,rfl⟩|⟨x,t,rfl,rfl⟩ <;> rfl
 pyHash:=λhv h=>by
  rcases bc hv with⟨i,t,rfl,rfl⟩|⟨x,t,rfl,rfl⟩
  ·exact wpAny_pyHash_int h
  ·exact wpAny_pyHash_str h
 eqBool:=λhu hv h=>by
  rcases bc hu with⟨i,t,rfl,rfl⟩|⟨x,t,rfl,rfl⟩
  ·rcases bc hv with⟨j,u,rfl,rfl⟩|⟨y,u,rfl,rfl⟩
   ·rw[Vy]at h;exact wpAny_eqBool_int h
   ·rw[Vx]at h;exact SeqAt.EqAt.int_str i t y u _ _ _ _ h
  ·rcases bc hv with⟨j,u,rfl,rfl⟩|⟨y,u,rfl,rfl⟩
   ·rw[Vw]at h;exact SeqAt.EqAt.str_int x t j u _ _ _ _ h
   ·rw[Vv]at h;exact wpAny_eqBool_str h
 «strs»:=λk x t v h=>by
  rcases bc h with⟨i,u,rfl,e⟩|⟨y,u,rfl,e⟩
  ·exact nomatch e
  ·injection e with e1 _
   subst e1
   cases v <;> rfl
theorem vD (prog:É)(w:World)(i:Int)(t:Tok):(aM prog w).is (.inl i) (.int i t)=true:=zT i t
theorem vC (prog:É)(w:World)(x:Str)(t:Tok):(aM prog w).is (.inr x) (.str x t)=true:=zS x t
inductive V where
 |non|bl (b:Bool)|int (i:Int)|str (x:Str)|byt (b:Array UInt8)|flt (b:UInt64)|ref (a:Addr)|ty (n:String)
 deriving DecidableEq
def RelV:V->Value->Prop
 | .non,u=>u=Value.none
 | .bl b,u=>u=Value.bool b
 | .int i,u=>∃ t,u=Value.int i t
 | .str x,u=>∃ t,u=Value.str x t
 | .byt b,u=>∃ t,u=Value.bytes b t
 | .flt b,u=>∃ t,u=Value.float b t
 | .ref a,u=>u=Value.ref a
 | .ty n,u=>u=Value.type n
abbrev Vals:List V->List Value->Prop:=Paired RelV
theorem Vals.length (r:Vals xs us):xs.length=us.length:=Paired.length r
abbrev _root_.π:=List V
abbrev _root_.θ:=List Value
theorem Vals.get:∀ {xs:π}{us:θ}{i:Nat}{x:V},Vals xs us->xs[i]?=some x->∃ u,us[i]?=some u/\RelV x u
 | _,_,_,_,.nil,e=>by simp at e
 | _,_,0,_,.cons r _,e=>by simp at e;subst e;exact⟨_,rfl,r⟩
 | _,_,i+1,x,.cons _ t,e=>by obtain⟨u,h1,h2⟩:=Vals.get (i:=i) (x:=x) t (by simpa using e);exact⟨u,by simpa using h1,h2⟩
theorem Vals.set (r:RelV x u):∀ {xs:π}{us:θ} (i:Nat),Vals xs us->Vals (xs.set i x) (us.set i u)
 | _,_,_,.nil=>.nil
 | _,_,0,.cons _ t=>.cons r t
 | _,_,i+1,.cons q t=>.cons q (Vals.set r i t)
theorem Vals.append:∀ {xs ys:π}{us ws:θ},Vals xs us->Vals ys ws->Vals (xs++ys) (us++ws)
 | _,_,_,_,.nil,s=>s
 | _,_,_,_,.cons r t,s=>.cons r (Vals.append t s)
theorem Vals.take:∀ {xs:π}{us:θ} (n:Nat),Vals xs us->Vals (xs.take n) (us.take n)
 | _,_,0,_=>.nil
 | _,_,_+1,.nil=>.nil
 | _,_,n+1,.cons r t=>.cons r (Vals.take n t)
theorem Vals.drop:∀ {xs:π}{us:θ} (n:Nat),Vals xs us->Vals (xs.drop n) (us.drop n)
 | _,_,0,r=>r
 | _,_,_+1,.nil=>.nil
 | _,_,n+1,.cons _ t=>Vals.drop n t
def Lr:Option V->Option Value->Prop
 | some v,some u=>RelV v u
 | none,none=>True
 | _,_=>False
def KV {κ:Type}:List (κ×V)->List (κ×Value)->Prop:=Paired λ(p:κ×V) (q:κ×Value)=>p.1=q.1/\RelV p.2 q.2
noncomputable def kV:Key->V
 | .inl i=>.int i
 | .inr x=>.str x
abbrev _root_.Ò:=Array Value
abbrev _root_.Í:=List (Str×V)
abbrev _root_.ξ:=List (Key×V)
inductive HO where
 |lst (xs:π)
 |tup (xs:π)
 |dK (ķ:ξ)|dT (ķ:List (List Key×V))
 |set (S:Int->Bool) (n:Nat)
 |ins (C dx:Addr) (fs:Í)
 |own (x:Addr)
 |xd (fs:Í)
 |met (f x:Addr)
 |rng (lo hi:Int)
 |frz (o:Obj) (u:HO)
 |tbl (ps:Ò)
 |ext (φ:Heap->Prop)
abbrev Hp:=Addr->Option HO
noncomputable def upd (H:Hp)(a:Addr)(o:HO):Hp:=λb=>if b=a then some o else H b
theorem ag:upd H a o a=some o:=by unfold upd;rw[if_pos rfl]
theorem ab (h:b≠a):upd H a o b=H b:=by unfold upd;rw[if_neg h]
theorem cH {H:Hp}(h:H a=some o)(h':H b=some u)(d:o≠u):a≠b:=by intro e;subst e;rw[h]at h';exact d (Option.some.inj h')
theorem aq {H:Hp}(h:H a=some o)(h':H b=none):a≠b:=by intro e;subst e;rw[h]at h';cases h'
section
variable (P:É)(w:World)
def Im (H:Hp)(h:Heap)(a:Addr):HO->Prop
 | .lst xs=>xs.length<=sizeLine/\∃ (its:θ)(n:Nat),Vals xs its/\h.get? a=some { cls:=.type "list",data:=.seq its.toArray n }
 | .tup xs=>xs.length<=sizeLine/\∃ its:θ,Vals xs its/\IsTup h a its.toArray
 | .dK ķ=>ķ.length<=sizeLine/\(a==sysModules)=false/\∃ vs,KV ķ vs/\h.DictOf (aM P w) a vs
 | .dT ķ=>ķ.length<=sizeLine/\(a==sysModules)=false/\∃ xs:List (List Key×Addr×Value),
   Paired (λ(p:List Key×V) (q:List Key×Addr×Value)=>p.1=q.1/\H q.2.1=some (.tup (p.1.map kV))/\RelV p.2 q.2.2) ķ xs/\
   ∃ o es ep,h.get? a=some o/\o.ExactDict/\o.data=.dict es ep/\es.toList=xs.map (entryOfKey (tupleKind (aM P w)))/\(xs.map (·.1)).Nodup
 | .set S n=>h.SetOf (intKind P w) a S n
 | .ins C dx fs=>H dx=some (.own a)/\fs.length<=1000/\dx≠a/\h.get? a=some (W.instObj C dx)/\
   ∃ mA,h.Ns1 dx mA/\(∀ f,Lr (fs.lookup f) (mA f))/\PySem.Within mA (fs.map (·.1))
 | .own _=>∃ o,h.get? a=some o
 | .xd fs=>∃ mA,h.Ns1 a mA/\∀ f,Lr (fs.lookup f) (mA f)
 | .rng lo hi=>∃ t u v,h.get? a=some { cls:=.type "range",data:=.fields #[.int lo t,.int hi u,.int 1 v] }
 | .frz o u=>h.get? a=some o/\Im H h a u
 | .tbl ps=>h.get? a=some { cls:=.none,data:=.fields ps }
 | .met f x=>h.get? a=some (W.methodObj (.ref f) (.ref x))
 | .ext φ=>φ h/\(∃ o,h.get? a=some o)/\∀ h1 h2:Heap,φ h1->(∀ o,h1.get? a=some o->h2.get? a=some o)->φ h2
def Mf (H:Hp)(h:Heap):Prop:=∀ a o,H a=some o->Im P w H h a o
end
theorem Im.lt (x:Im P w H h a o):a<h.objs.size:=by
 cases o with
 | lst xs=>obtain⟨_,_,_,_,e⟩:=x;exact E8 e
 | tup xs=>obtain⟨_,_,_,p⟩:=x;exact p.lt
 | dK ķ=>obtain⟨_,_,_,_,o,_,_,e,_⟩:=x;exact E8 e
 | dT ķ=>obtain⟨_,_,_,_,o,_,_,e,_⟩:=x;exact E8 e
 | set S n=>obtain⟨o,_,_,_,e,_⟩:=x;exact E8 e
 | ins C dx fs=>obtain⟨_,_,_,e,_⟩:=x;exact E8 e
 | own y=>obtain⟨_,e⟩:=x;exact E8 e
 | xd fs=>obtain⟨_,⟨_,_,_,e,_⟩,_⟩:=x;exact E8 e
 | rng lo hi=>obtain⟨_,_,_,e⟩:=x;exact E8 e
 | frz ob u=>obtain⟨e,_⟩:=x;exact E8 e
 | tbl ps=>exact E8 (x)
 | met f y=>exact E8 (x)
 | ext φ=>obtain⟨_,⟨_,e⟩,_⟩:=x;exact E8 e
theorem Paired.JD:∀ {l₁:List α}{l₂:List β},Paired F l₁ l₂->(∀ a b,F a b->G a b)->Paired G l₁ l₂
 | _,_,.nil,_=>.nil
 | _,_,.cons r t,f=>.cons (f _ _ r) (Paired.JD t f)
theorem Paired.imp' (f:∀ a b,F a b->G a b)(r:Paired F l₁ l₂):Paired G l₁ l₂:=Paired.JD r f
theorem Im.JM (x:Im P w H h a o)(k:∀ b u,(b=a\/H b=some (.own a))->h.get? b=some u->h'.get? b=some u)(ho:∀ b,H b=some (.own a)->H' b=some (.own a))(ht:∀ b xs,H b=some (.tup xs)->H' b=some (.tup xs)):Im P w H' h' a o:=by
 induction o with
 | lst xs=>obtain⟨z,its,n,r,e⟩:=x;exact⟨z,its,n,r,k _ _ (.inl rfl) e⟩
 | tup xs=>obtain⟨z,its,r,ob,e,c⟩:=x;exact⟨z,its,r,ob,k _ _ (.inl rfl) e,c⟩
 | dK ķ=>obtain⟨z,y,vs,r,ob,es,ep,e,c⟩:=x;exact⟨z,y,vs,r,ob,es,ep,k _ _ (.inl rfl) e,c⟩
 | dT ķ=>
  obtain⟨z,y,xs,r,ob,es,ep,e,c⟩:=x;exact⟨z,y,xs,Paired.JD r λp q z=>⟨z.1,ht _ _ z.2.1,z.2.2⟩,ob,es,ep,k _ _ (.inl rfl) e,c⟩
 | set S n=>obtain⟨ob,es,ep,t,e,c⟩:=x;exact⟨ob,es,ep,t,k _ _ (.inl rfl) e,c⟩
 | ins C dx fs=>
  obtain⟨d,z,ne,e,mA,⟨od,es,ep,e2,c⟩,r⟩:=x;exact⟨ho _ d,z,ne,k _ _ (.inl rfl) e,mA,⟨od,es,ep,k _ _ (.inr d) e2,c⟩,r⟩
 | own y=>obtain⟨ob,e⟩:=x;exact⟨ob,k _ _ (.inl rfl) e⟩
 | xd fs=>obtain⟨mA,⟨od,es,ep,e,c⟩,r⟩:=x;exact⟨mA,⟨od,es,ep,k _ _ (.inl rfl) e,c⟩,r⟩
 | rng lo hi=>obtain⟨t,u,v,e⟩:=x;exact⟨t,u,v,k _ _ (.inl rfl) e⟩
 | frz ob u ih=>obtain⟨e,q⟩:=x;exact⟨k _ _ (.inl rfl) e,ih q⟩
 | tbl ps=>
  have e:=x;exact k a _ (.inl rfl) e
 | met f y=>
  have e:=x;exact k a _ (.inl rfl) e
 | ext φ=>obtain⟨p,⟨o,e⟩,st⟩:=x;exact⟨st _ _ p λo q=>k _ _ (.inl rfl) q,⟨o,k _ _ (.inl rfl) e⟩,st⟩
theorem Mf.lt (x:Mf P w H h)(e:H a=some o):a<h.objs.size:=(x a o e).lt
theorem Mf.fresh (x:Mf P w H h)(e:h.objs.size<=a):H a=none:=by
 cases q:H a with
 | none=>rfl
 | some u=>exact absurd (Ey (x.lt q) e) (Fc _)
theorem Mf.kept (x:Mf P w H h)(k:∀ b u,h.get? b=some u->h'.get? b=some u):Mf P w H h':=λa o e=>
 (x a o e).JM (λb u _ q=>k b u q) (λ_ q=>q) λ_ _ q=>q
theorem Mf.laid (x:Mf P w H h)(k:∀ b u,h.get? b=some u->h'.get? b=some u)(hp:h.objs.size<=a)(new:Im P w (upd H a o) h' a o):Mf P w (upd H a o) h':=λb u e=>by
 have hn:=x.fresh hp;by_cases hb:b=a
 ·subst hb;rw[ag]at e;cases e;exact new
 ·rw[ab hb]at e;exact (x b u e).JM (λc v _ q=>k c v q) (λc q=>by rw[ab<|aq q hn];exact q) λc xs q=>by rw[ab<|aq q hn];exact q
def Rd (H:Hp)(a:Addr)(u:HO):Prop:=H a=some u\/∃ o,H a=some (.frz o u)
theorem Rd.ok (r:Rd H a u)(x:Mf P w H h):Im P w H h a u:=by
 rcases r with r|⟨o,r⟩
 ·exact x a u r
 ·obtain⟨_,q⟩:=x a _ r;exact q
def Zp:Option HO->Prop
 | some (.lst _)=>True
 | some (.dK _)=>True
 | some (.dT _)=>True
 | some (.set _ _)=>True
 | some (.ins _ _ _)=>True
 | some (.ext _)=>True
 | _=>False
theorem Mf.write (ok:Mf P w H h)(mu:Zp (H x))(he:e=x\/H e=some (.own x))(k:∀ b u,b≠e->h.get? b=some u->h'.get? b=some u)(WK:∃ u,h'.get? e=some u)(new:Im P w (upd H x o') h' x o'):Mf P w (upd H x o') h':=λb u q=>by
 have XN:∀ c y,H c=some (.own y)->c≠x:=λc y r z=>by subst z;rw[r]at mu;exact mu
 have a1w:∀ c xs,H c=some (.tup xs)->c≠x:=λc xs r z=>by subst z;rw[r]at mu;exact mu
 by_cases hb:b=x
 ·subst hb;rw[ag]at q;cases q;exact new
 ·rw[ab hb]at q;by_cases VR:b=e
  ·have q':H b=some (.own x):=by
    rcases he with z|z
    ·exact absurd (VR.trans z) hb
    ·rw[VR];exact z
   rw[q]at q';cases q';obtain⟨v,hv⟩:=WK;exact⟨v,by rw[VR];exact hv⟩
  ·refine (ok b u q).JM (λc v hc r=>k c v ?_ r) (λc r=>by rw[ab<|XN c b r];exact r) λc xs r=>by rw[ab<|a1w c xs r];exact r
   rcases hc with rfl|hc
   ·exact VR
   ·rintro rfl;rcases he with z|z
    ·exact XN c b hc z
    ·rw[hc]at z;cases z;exact hb rfl
abbrev _root_.υ:=List Addr
structure Un (fs ex:υ) (H H':Hp) (h h':Heap):Prop where
 keep:∀ b o,h.get? b=some o->H b=none->b∉fs->b∉ex->h'.get? b=some o
 slot:∀ b o,h.get? b=some o->H b=none->b∈fs->b∉ex->∃ sl,h'.get? b=some { o with slots:=sl }
 free:∀ b o,h.get? b=some o->H b=none->b∉ex->H' b=none
 there:∀ b o,h.get? b=some o->b∉ex->∃ o',h'.get? b=some o'
 OH:∀ b xs,H b=some (.tup xs)->H' b=some (.tup xs)
 O0:∀ b o u,H b=some (.frz o u)->H' b=some (.frz o u)
 OI:∀ b ps,H b=some (.tbl ps)->∃ more,H' b=some (.tbl (ps++more))
section
variable {fs ex:υ}{H:Hp}{h h':Heap}{a:Addr}{o:HO}
theorem Un.any (u:Un fs ex H H1 h h1)(q:h.get? b=some ob)(n:H b=none)(hx:b∉ex):∃ sl,h1.get? b=some { ob with slots:=sl }:=by
 by_cases hb:b∈fs
 ·exact u.slot b ob q n hb hx
 ·exact⟨ob.slots,u.keep b ob q n hb hx⟩
theorem Un.kept (k:∀ b u,h.get? b=some u->h'.get? b=some u):Un fs ex H H h h':=
 ⟨λb ob q _ _ _=>k b ob q,λb ob q _ _ _=>⟨ob.slots,k b ob q⟩,λ_ _ _ n _=>n,λb ob q _=>⟨ob,k b ob q⟩,λ_ _ q=>q,λ_ _ _ q=>q,λ_ ps q=>⟨#[],by rw[q];simp⟩⟩
theorem Un.refl:Un fs ex H H h h:=Un.kept λ_ _ q=>q
theorem Un.laid (k:∀ b u,h.get? b=some u->h'.get? b=some u)(hp:h.objs.size<=a)(hn:H a=none):Un fs ex H (upd H a o) h h' where
 keep:=λb u q _ _ _=>k b u q
 slot:=λb u q _ _ _=>⟨u.slots,k b u q⟩
 free:=λb u q n _=>by rw[ab<|EL (Ey (E8 q) hp)];exact n
 there:=λb u q _=>⟨u,k b u q⟩
 OH:=λb xs q=>by rw[ab<|aq q hn];exact q
 O0:=λb u xs q=>by rw[ab<|aq q hn];exact q
 OI:=λb ps q=>⟨#[],by rw[ab<|aq q hn,q];simp⟩
theorem Un.write (mu:Zp (H x))(he:e=x\/H e=some (.own x))(k:∀ b u,b≠e->h.get? b=some u->h'.get? b=some u)(WK:∃ u,h'.get? e=some u):Un fs ex H (upd H x o) h h':=by
 have hx:∀ b,H b=none->b≠x:=λb n z=>by subst z;rw[n]at mu;exact mu
 have hb:∀ b,H b=none->b≠e:=λb n z=>by
  subst z;rcases he with r|r
  ·exact hx b n r
  ·rw[n]at r;cases r
 have hm:∀ b u,H b=some u->¬ Zp (some u)->b≠x:=λb u q nm z=>by subst z;rw[q]at mu;exact nm mu
 refine⟨λb u q n _ _=>k b u (hb b n) q,λb u q n _ _=>⟨u.slots,k b u (hb b n) q⟩,λb u q n _=>by rw[ab<|hx b n];exact n,λb u q _=>?_,
  λb xs q=>by rw[ab<|hm b _ q λz=>z];exact q,λb u xs q=>by rw[ab<|hm b _ q λz=>z];exact q,λb ps q=>⟨#[],by rw[ab<|hm b _ q λz=>z,q];simp⟩⟩
 by_cases VR:b=e
 ·subst VR;exact WK
 ·exact⟨u,k b u VR q⟩
end
noncomputable def Zx (h:Heap)(H:Hp):υ:=(List.range h.objs.size).filter λa=>(H a).isSome
noncomputable def tZ (h:Heap)(H:Hp):Heap:=W.hideAll h (Zx h H)
theorem zY (h:Heap)(H:Hp):(tZ h H).objs.size=h.objs.size:=W.hideAll_size _ _
theorem BI (e:h.get? b=some o)(n:H b=none):(tZ h H).get? b=some o:=
 W.hideAll_get _ e λhm=>by have q:=(DY.mp hm).2;rw[n]at q;simp at q
theorem D7 (e:(tZ h H).get? b=some o):h.get? b=some o/\H b=none:=by
 have e':=W.of_hideAll _ e;refine⟨e',?_⟩
 cases q:H b with
 | none=>rfl
 | some x=>
  have hm:b∈Zx h H:=DY.mpr ⟨Eg.mpr<|E8 e',by simp[q]⟩;have z:(tZ h H).get? b=none:=W.hideAll_none _ hm;rw[z]at e;cases e
abbrev _root_.Ω:=Str->Option Value
abbrev _root_.Ψ:=W.Frag
structure Mod (K:Ψ) (mg:Ω) (base:Heap):Prop where
 Wz:K.In base
 glob:base.Ns mainGlobals mg
 blt:∃ mb,base.Ns builtinsNs mb/\∀ x:Str,x≠"__name__"->mb x=bootBuiltins x
 nolimit:base.NoLimit
abbrev _root_.Ë:=Around
abbrev _root_.Ê:=Shared
abbrev _root_.ρ:=Value->Shared->Prop
abbrev _root_.η:=List Str
abbrev _root_.ζ:=List (Addr×Obj)
structure Cx where
 prog:É
 w:World
 K:Ψ
 mg:Ω
 base:Heap
 A:Ë
 N:η
 s₀:Ê
 H₀:Hp
 env:Env
 outer:List Env
 stack:List Env
 ex:υ
 fn:Str->Bool
 calm:Bool
 pn:ζ
 xe:ρ
noncomputable def R0 (l:List Env):υ:=l.filterMap (·.frame)
noncomputable abbrev Cx.fs (X:Cx):υ:=R0 X.outer
def WV (sc:Scope)(x:Str):Prop:=sc.names.lookup x=some .local\/sc.names.lookup x=some .cell\/sc.names.lookup x=some .free
def Loc (sc:Scope)(x:Str):Prop:=sc.names.lookup x=some .local\/sc.names.lookup x=some .cell
def Look (env:Env)(h:Heap)(m:Ω)(x:Str)(u:Value):Prop:=
 (env.kindOf x=some .local/\m x=some u)\/((env.kindOf x=some .cell\/env.kindOf x=some .free)/\∃ c,env.cells.lookup x=some c/\h.IsCell c (some u))
structure Cx.Ok (X:Cx):Prop where
 mod:Mod X.K X.mg X.base
 kind:X.env.scope.kind=.function
 glob:X.env.globals=mainGlobals
 blt:X.env.builtins=builtinsNs
 above:X.s₀.heap.objs.size<=X.env.locals
 inj:∀ x y c,X.env.cells.lookup x=some c->X.env.cells.lookup y=some c->x=y
 has:∀ x,(X.env.kindOf x=some .cell \/ X.env.kindOf x=some .free)->∃ c,X.env.cells.lookup x=some c
 Zd:∀ x c,X.fn x=true->X.env.cells.lookup x=some c->X.s₀.heap.objs.size<=c
 hd:X.calm=true->X.A.handled=none
 frames:X.A.frames=some X.stack
 ZC:X.stack=X.outer \/ (X.stack=X.env::X.outer/\X.env.frame=some X.env.locals)
 exf:∀ b∈X.ex,b≠X.env.locals/\∀ x c,X.env.cells.lookup x=some c->c≠b
 bs:∀ b o,X.base.get? b=some o->X.s₀.heap.get? b=some o/\X.H₀ b=none
 Sx:X.base.objs.size<=X.s₀.heap.objs.size
 QJ:∀ b o,X.base.get? b=some o->b∉X.ex
 Tc:∀ b∈X.ex,b∉X.fs
 Nv:X.s₀.heap.FunFrames X.base X.outer
 VZ:∀ b∈X.fs,X.H₀ b=none
abbrev _root_.Ç:=Option V
structure Inv (X:Cx) (ñ:ζ) (σ:List Ç) (H:Hp) (s:Ê):Prop where
 ok:X.Ok
 os:s.os=X.s₀.os
 bare:AllBare s.gens
 base:Un X.fs X.ex X.H₀ H X.s₀.heap s.heap
 loc:∃ m,s.heap.Ns X.env.locals m/\∀ (i:Nat)(x:Str)(v:V),X.N[i]?=some x->σ[i]?=some (some v)->WV X.env.scope x->∃ u,RelV v u/\Look X.env s.heap m x u
 cell:∀ x c,X.env.cells.lookup x=some c->∃ v,s.heap.IsCell c v
 free:H X.env.locals=none
 Ky:∀ x c,X.env.cells.lookup x=some c->H c=none
 pin:∀ p∈X.pn++ñ,s.heap.get? p.1=some p.2/\H p.1=none/\p.1≠X.env.locals/\p.1∉X.fs/\∀ v,p.2.data≠.cell v
 Iq:Mf X.prog X.w H s.heap
 len:σ.length=X.N.length
theorem Cx.Ok.a1x {X:Cx}(ok:X.Ok)(e:X.base.get? b=some o):b∉X.fs:=λhb=>by have:=(ok.Nv.mem hb).1;rw[e]at this;cases this
theorem Inv.bs (I:Inv X ñ σ H s):∀ b o,X.base.get? b=some o->s.heap.get? b=some o/\H b=none:=λb o e=>
 ⟨I.base.keep b o (I.ok.bs b o e).1 (I.ok.bs b o e).2 (I.ok.a1x e)<|I.ok.QJ b o e,I.base.free b o (I.ok.bs b o e).1 (I.ok.bs b o e).2<|I.ok.QJ b o e⟩
theorem Inv.bk (I:Inv X ñ σ H s):∀ b o,X.base.get? b=some o->s.heap.get? b=some o:=λb o e=>(I.bs b o e).1
theorem Inv.mod (I:Inv X ñ σ H s):Mod X.K X.mg X.base:=I.ok.mod
theorem Inv.N0 (I:Inv X ñ σ H s):X.K.In s.heap:=I.ok.mod.Wz.keeps I.bk
theorem Inv.lt (I:Inv X ñ σ H s):X.env.locals<s.heap.objs.size:=let ⟨_,hn,_⟩:=I.loc;hn.lt
theorem Inv.sz (I:Inv X ñ σ H s):X.s₀.heap.objs.size<=s.heap.objs.size:=Ei I.ok.above (GU I.lt)
theorem Inv.XO (I:Inv X ñ σ H s)(h:s.heap.objs.size<=a):a∉X.fs:=λhb=>by obtain⟨_,o,ho,_⟩:=I.ok.Nv.mem hb;exact absurd (Ey (E8 ho)<|Ei I.sz h) (Fc _)
theorem Inv.W8 (I:Inv X ñ σ H s):∀ x c,X.env.cells.lookup x=some c->c≠X.env.locals:=λx c e z=>by obtain⟨v,o,ho,hd⟩:=I.cell x c e;obtain⟨m,⟨o',es,ep,OS,Oi,_⟩,_⟩:=I.loc;rw[z,OS]at ho;cases ho;rw[Oi]at hd;cases hd
theorem Inv.Nv (I:Inv X ñ σ H s):s.heap.FunFrames X.base X.outer:=by
 have all:∀ (l:List Env),(∀ b∈R0 l,b∈X.fs)->X.s₀.heap.FunFrames X.base l->s.heap.FunFrames X.base l:=by
  intro l
  induction l with
  | nil=>intro _ _;trivial
  | cons env r ih=>
   intro hs hl;obtain⟨hk,⟨L,o,hf,hn,ho,hd⟩,hr⟩:=hl;have hL:=hs L (by unfold R0;rw[Hu,hf];exact E7);obtain⟨sl,e⟩:=I.base.slot L o ho (I.ok.VZ L hL) hL λz=>I.ok.Tc L z hL;exact⟨hk,⟨L,_,hf,hn,e,hd⟩,ih (λb hb=>hs b (by unfold R0;rw[Hu,hf];exact E6 _ hb)) hr⟩
 exact all _ (λ_ hb=>hb) I.ok.Nv
theorem Inv.stack (I:Inv X ñ σ H s):s.heap.FunFrames X.base X.stack:=by
 rcases I.ok.ZC with e|⟨e,hf⟩
 ·rw[e];exact I.Nv
 ·rw[e];obtain⟨m,hn,_⟩:=I.loc;refine .cons (by rw[I.ok.kind];decide) hf hn ?_ I.Nv;exact Heap.get?_none_of_le (Ei I.ok.Sx I.ok.above)
theorem Inv.PM (I:Inv X ñ σ H s):∀ b∈R0 X.stack,b∈X.env.locals::X.fs:=λb hb=>by
 rcases I.ok.ZC with e|⟨e,hf⟩
 ·rw[e]at hb;exact E6 _ hb
 ·rw[e]at hb;unfold R0 at hb;rw[Hu,hf]at hb;exact hb
theorem Inv.Qf (I:Inv X ñ σ H s):∀ b∈R0 X.stack,H b=none:=λb hb=>by
 rcases E3.mp (I.PM b hb) with e|hb
 ·rw[e];exact I.free
 ·obtain⟨_,o,ho,_⟩:=I.ok.Nv.mem hb;exact I.base.free b o ho (I.ok.VZ b hb) λz=>I.ok.Tc b z hb
theorem Inv.step {ch:υ}(I:Inv X ñ σ H s)(Sk:∀ b∈ch,(b∈X.ex\/X.s₀.heap.objs.size<=b)/\b≠X.env.locals/\(∀ x c,X.env.cells.lookup x=some c->c≠b)/\∀ p∈X.pn++ñ,p.1≠b)(keep:∀ b o,b≠X.env.locals->b∉X.fs->b∉ch->s.heap.get? b=some o->H b=none->h'.get? b=some o)(slot:∀ b o,b≠X.env.locals->b∈X.fs->b∉ch->s.heap.get? b=some o->H b=none->∃ sl,h'.get? b=some { o with slots:=sl })(free:∀ b o,b∉ch->s.heap.get? b=some o->H b=none->H' b=none)(there:∀ b o,b∉ch->s.heap.get? b=some o->∃ o',h'.get? b=some o')(OH:∀ b xs,H b=some (.tup xs)->H' b=some (.tup xs))(O0:∀ b o u,H b=some (.frz o u)->H' b=some (.frz o u))(OI:∀ b ps,H b=some (.tbl ps)->∃ more,H' b=some (.tbl (ps++more)))(ns:∀ m,s.heap.Ns X.env.locals m->h'.Ns X.env.locals m)(Iq:Mf X.prog X.w H' h')(hg:AllBare g'):
  Inv X ñ σ H' { s with heap:=h',gens:=g',drawn:=d',toks:=t' }:=by
 have neL:∀ b o,X.s₀.heap.get? b=some o->b≠X.env.locals:=λb o e=>EL<|Ey (E8 e) I.ok.above;have ZN:∀ b o,X.s₀.heap.get? b=some o->b∉X.ex->b∉ch:=λb o e hx hb=>by
  rcases (Sk b hb).1 with z|z
  ·exact hx z
  ·exact absurd (Ey (E8 e) z) (Fc _)
 have cellK:∀ x c,X.env.cells.lookup x=some c->∀ v,s.heap.IsCell c v->h'.IsCell c v:=λx c e v gR=>by
  obtain⟨o,ho,hd⟩:=gR;have XS:=λz=>(Sk c z).2.2.1 x c e rfl;by_cases hc:c∈X.fs
  ·obtain⟨sl,q⟩:=slot c o (I.W8 x c e) hc XS ho<|I.Ky x c e;exact⟨_,q,hd⟩
  ·exact⟨o,keep c o (I.W8 x c e) hc XS ho<|I.Ky x c e,hd⟩
 refine⟨I.ok,I.os,hg,⟨λb o e n hb hx=>?_,λb o e n hb hx=>?_,λb o e n hx=>?_,λb o e hx=>?_,λb xs e=>OH b xs<|I.base.OH b xs e,λb o xs e=>O0 b o xs<|I.base.O0 b o xs e,λb ps e=>?_⟩,?_,λx c e=>?_,?_,λx c e=>?_,λp hp=>?_,Iq,I.len⟩
 ·exact keep b o (neL b o e) hb (ZN b o e hx) (I.base.keep b o e n hb hx) (I.base.free b o e n hx)
 ·obtain⟨sl,e1⟩:=I.base.slot b o e n hb hx;obtain⟨sl',e2⟩:=slot b _ (neL b o e) hb (ZN b o e hx) e1<|I.base.free b o e n hx;exact⟨sl',e2⟩
 ·obtain⟨o',e1⟩:=I.base.there b o e hx;exact free b o' (ZN b o e hx) e1 (I.base.free b o e n hx)
 ·obtain⟨o',e1⟩:=I.base.there b o e hx;exact there b o' (ZN b o e hx) e1
 ·obtain⟨m1,e1⟩:=I.base.OI b ps e;obtain⟨m2,e2⟩:=OI b _ e1;exact⟨m1++m2,by rw[e2,Array.append_assoc]⟩
 ·obtain⟨m,hn,hl⟩:=I.loc;refine⟨m,ns m hn,λi x v e1 e2 e3=>?_⟩;obtain⟨u,r,l⟩:=hl i x v e1 e2 e3;refine⟨u,r,?_⟩;rcases l with l|⟨k,c,e,z⟩
  ·exact .inl l
  ·exact .inr ⟨k,c,e,cellK x c e _ z⟩
 ·obtain⟨v,z⟩:=I.cell x c e;exact⟨v,cellK x c e v z⟩
 ·obtain⟨m,⟨o,_,_,ho,_⟩,_⟩:=I.loc;exact free _ o (λz=>(Sk _ z).2.1 rfl) ho I.free
 ·obtain⟨v,o,ho,hd⟩:=I.cell x c e;exact free c o (λz=>(Sk c z).2.2.1 x c e rfl) ho (I.Ky x c e)
 ·obtain⟨e,n,ne,nf,d⟩:=I.pin p hp;have XS:=λz=>(Sk p.1 z).2.2.2 p hp rfl;exact⟨keep p.1 p.2 ne nf XS e n,free p.1 p.2 XS e n,ne,nf,d⟩
theorem Inv.un (I:Inv X ñ σ H s)(u:Un X.fs [] H H' s.heap h')(Iq:Mf X.prog X.w H' h'):Inv X ñ σ H' { s with heap:=h',toks:=t' }:=by
 obtain⟨m,⟨o,es,ep,ho,r⟩,_⟩:=id I.loc;obtain⟨sl,hL⟩:=u.any ho I.free (by simp);exact I.step (ch:=[]) (λ_ z=>nomatch z) (λb o _ hb _ e n=>u.keep b o e n hb<|by simp) (λb o _ hb _ e n=>u.slot b o e n hb<|by simp) (λb o _ e n=>u.free b o e n<|by simp) (λb o _ e=>u.there b o e<|by simp) u.OH u.O0 u.OI (λm' hm=>by obtain⟨o',es',ep',OS,r'⟩:=hm;rw[ho]at OS;cases OS;exact⟨_,es',ep',hL,r'⟩) Iq I.bare
theorem Inv.call (I:Inv X ñ σ H s)(u:Un (R0 X.stack) ch H H' s.heap h')(Iq:Mf X.prog X.w H' h')(hg:AllBare g')(Sk:∀ b∈ch,(b∈X.ex\/X.s₀.heap.objs.size<=b)/\b≠X.env.locals/\(∀ x c,X.env.cells.lookup x=some c->c≠b)/\∀ p∈X.pn++ñ,p.1≠b):
  Inv X ñ σ H' { s with heap:=h',gens:=g',drawn:=d',toks:=t' }:=by
 obtain⟨m,⟨o,es,ep,ho,r⟩,_⟩:=id I.loc;obtain⟨sl,hL⟩:=u.any ho I.free λz=>(Sk _ z).2.1 rfl;exact I.step Sk (λb o hL hb hc e n=>u.keep b o e n (λz=>(E3.mp<|I.PM b z).elim hL hb) hc) (λb o _ _ hc e n=>u.any e n hc) (λb o hc e n=>u.free b o e n hc) (λb o hc e=>u.there b o e hc) u.OH u.O0 u.OI (λm' hm=>by obtain⟨o',es',ep',OS,r'⟩:=hm;rw[ho]at OS;cases OS;exact⟨_,es',ep',hL,r'⟩) Iq hg
theorem Inv.turned (I:Inv X ñ σ H s)(k:∀ b o,b≠it->s.heap.get? b=some o->h'.get? b=some o)(hn:H it=none)(hL:it≠X.env.locals)(h1:it∈X.ex\/X.s₀.heap.objs.size<=it)(h2:∀ x c,X.env.cells.lookup x=some c->c≠it)(h3:∀ p∈X.pn++ñ,p.1≠it):Inv X ñ σ H { s with heap:=h',toks:=t' }:=by
 have nit:∀ b u,H b=some u->b≠it:=λb u e z=>by rw[z,hn]at e;cases e
 refine I.step (ch:=[it]) (λb hb=>?_) (λb o _ _ hc e _=>k b o (λz=>hc<|by simp[z]) e) (λb o _ _ hc e _=>⟨o.slots,k b o (λz=>hc<|by simp[z]) e⟩) (λ_ _ _ _ n=>n)
  (λb o hc e=>⟨o,k b o (λz=>hc<|by simp[z]) e⟩) (λ_ _ e=>e) (λ_ _ _ e=>e) (λb ps e=>⟨#[],by rw[e];simp⟩) (λm hm=>?_) (λb u e=>?_) I.bare
 ·have e:b=it:=by simpa using hb
  subst e;exact⟨h1,hL,h2,h3⟩
 ·obtain⟨o,es,ep,ho,r⟩:=hm;exact⟨o,es,ep,k _ o (Ne.symm hL) ho,r⟩
 ·refine (I.Iq b u e).JM (λc v hc q=>k c v ?_ q) (λ_ q=>q) λ_ _ q=>q;rcases hc with z|z
  ·rw[z];exact nit b u e
  ·exact nit c _ z
theorem Inv.tok (I:Inv X ñ σ H s)(t:Nat):Inv X ñ σ H { s with toks:=t }:=I.un (h':=s.heap) (t':=t) Un.refl I.Iq
theorem Inv.kept (I:Inv X ñ σ H s)(k:∀ b u,s.heap.get? b=some u->h'.get? b=some u):Inv X ñ σ H { s with heap:=h',toks:=t' }:=I.un (Un.kept k) (I.Iq.kept k)
theorem Inv.laid (I:Inv X ñ σ H s)(k:∀ b u,s.heap.get? b=some u->h'.get? b=some u)(hp:s.heap.objs.size<=a)(new:Im X.prog X.w (upd H a o) h' a o):
  Inv X ñ σ (upd H a o) { s with heap:=h',toks:=t' }:=I.un (Un.laid k hp<|I.Iq.fresh hp) (I.Iq.laid k hp new)
theorem Inv.write (I:Inv X ñ σ H s)(mu:Zp (H x))(he:e=x\/H e=some (.own x))(k:∀ b u,b≠e->s.heap.get? b=some u->h'.get? b=some u)(WK:∃ u,h'.get? e=some u)(new:Im X.prog X.w (upd H x o) h' x o):Inv X ñ σ (upd H x o) { s with heap:=h',toks:=t' }:=I.un (Un.write mu he k WK) (I.Iq.write mu he k WK new)
theorem Inv.Qm (I:Inv X ñ σ H s)(h:∀ p∈U5,s.heap.get? p.1=some p.2/\H p.1=none/\p.1≠X.env.locals/\p.1∉X.fs/\∀ v,p.2.data≠.cell v):Inv X U5 σ H s:=
 ⟨I.ok,I.os,I.bare,I.base,I.loc,I.cell,I.free,I.Ky,λp hp=>(Ea.mp hp).elim (λz=>I.pin p<|Ew _ z)<|h p,I.Iq,I.len⟩
theorem vw {N:η}(hN:N.Nodup){i:Nat}(a:N[i]?=some x)(b:N[j]?=some x):i=j:=by obtain⟨h1,e1⟩:=DJ.mp a;obtain⟨h2,e2⟩:=DJ.mp b;exact (List.getElem_inj hN).mp (e1.trans e2.symm)
theorem _root_.ŕ.x (h:True:=by rfl):True:=h
abbrev _root_.ŕ:=ŕ.x._auto_1
theorem _root_.ĩ.x (h:True:=by decide):True:=h
abbrev _root_.ĩ:=ĩ.x._auto_1
theorem _root_.ŏ.x (h:True:=by intro _;rfl):True:=h
abbrev _root_.ŏ:=ŏ.x._auto_1
theorem _root_.ś.x (h:True:=by first|exact .inl rfl|exact .inr rfl|assumption):True:=h
abbrev _root_.ś:=ś.x._auto_1
theorem qp (I:Inv X ñ σ H s)(hN:X.N.Nodup)(hi:X.N[i]?=some x)(hx:Loc X.env.scope x)(r:RelV v u)(h:∀ s',Inv X ñ (σ.set i (some v)) H s'->(∃ a,Heap.SameBut a s.heap s'.heap/\(a=X.env.locals\/X.env.cells.lookup x=some a))->Q () s')(hf:autoParam (X.fn x=true\/X.env.scope.names.lookup x=some .local) ś):wpAny M A (storeName X.env x u) Q E s:=by
 obtain⟨m,hn,hl⟩:=id I.loc;have a2w:(X.env.scope.kind==.class || (X.env.scope.kind==.module&&X.env.locals != X.env.globals))=false:=by rw[I.ok.kind];rfl
 have hiσ:i<σ.length:=by rw[I.len];exact (DJ.mp hi).1
 have W8:=I.W8;have tracked:∀ {a:Addr}{h':Heap},(∃ o,s.heap.get? a=some o/\H a=none)->Heap.SameBut a _ h'->Mf _ X.w H h':=λ{a h'} ha hs b ob e=>by
  obtain⟨_,_,Ul⟩:=ha;refine (I.Iq b ob e).JM (λc w' hc q=>(hs.2 c ?_).trans q) (λ_ q=>q) λ_ _ q=>q;rintro rfl;rcases hc with rfl|hc
  ·rw[Ul]at e;cases e
  ·rw[Ul]at hc;cases hc
 rcases hx with hk|hk
 ·refine wpAny_storeName_local hk hn (λh' WD hs=>?_) a2w;obtain⟨oL,_,_,Yo,_⟩:=id hn;refine h _ ⟨I.ok,I.os,I.bare,⟨λb o e n hb hx=>?_,λb o e n hb hx=>?_,I.base.free,λb o e hx=>?_,I.base.OH,I.base.O0,I.base.OI⟩,⟨_,WD,λj y v' e1 e2 e3=>?_⟩,λy c e=>?_,I.free,I.Ky,λp hp=>?_,tracked ⟨oL,Yo,I.free⟩ hs,by simpa using I.len⟩ ⟨_,hs,.inl rfl⟩
  ·exact (hs.2 b<|EL (Ey (E8 e) I.ok.above)).trans (I.base.keep b o e n hb hx)
  ·obtain⟨sl,e1⟩:=I.base.slot b o e n hb hx;exact⟨sl,(hs.2 b<|EL (Ey (E8 e) I.ok.above)).trans e1⟩
  ·obtain⟨o',e1⟩:=I.base.there b o e hx;exact⟨o',(hs.2 b<|EL (Ey (E8 e) I.ok.above)).trans e1⟩
  ·by_cases hj:j=i
   ·subst hj;rw[hi]at e1;cases e1;rw[Gr hiσ]at e2
    cases e2;exact⟨u,r,.inl ⟨hk,by simp⟩⟩
   ·rw[GF<|Ne.symm hj]at e2;obtain⟨u',r',q⟩:=hl j y v' e1 e2 e3;refine⟨u',r',?_⟩;rcases q with⟨k,e⟩|⟨k,c,e,z⟩
    ·refine .inl ⟨k,?_⟩;have:y≠x:=λe=>hj<|vw hN e1 (e▸hi);simp[this,e]
    ·exact .inr ⟨k,c,e,z.sameBut hs<|W8 y c e⟩
  ·obtain⟨w',z⟩:=I.cell y c e;exact⟨w',z.sameBut hs<|W8 y c e⟩
  ·obtain⟨e,n,ne,nf,d⟩:=I.pin p hp;exact⟨(hs.2 p.1 ne).trans e,n,ne,nf,d⟩
 ·have hfn:X.fn x=true:=by
   rcases hf with z|z
   ·exact z
   ·rw[z]at hk;cases hk
  obtain⟨c,hc⟩:=I.ok.has x<|.inl hk;obtain⟨w',z⟩:=I.cell x c hc;refine wpAny_storeName_cell I.ok.kind hk hc z (λh' Q3 hs=>?_);obtain⟨oc,hoc,a2a⟩:=id z;refine h { s with heap:=h' } ⟨I.ok,I.os,I.bare,⟨λb o e n hb hx=>?_,λb o e n hb hx=>?_,I.base.free,λb o e hx=>?_,I.base.OH,I.base.O0,I.base.OI⟩,⟨m,hn.sameBut hs<|Ne.symm (W8 x c hc),λj y v' e1 e2 e3=>?_⟩,λy c' e=>?_,I.free,I.Ky,λp hp=>?_,tracked ⟨oc,hoc,I.Ky x c hc⟩ hs,by simpa using I.len⟩ ⟨c,hs,.inr hc⟩
  ·exact (hs.2 b<|EL (Ey (E8 e)<|I.ok.Zd x c hfn hc)).trans (I.base.keep b o e n hb hx)
  ·obtain⟨sl,e1⟩:=I.base.slot b o e n hb hx;exact⟨sl,(hs.2 b<|EL (Ey (E8 e)<|I.ok.Zd x c hfn hc)).trans e1⟩
  ·obtain⟨o',e1⟩:=I.base.there b o e hx;exact⟨o',(hs.2 b<|EL (Ey (E8 e)<|I.ok.Zd x c hfn hc)).trans e1⟩
  ·by_cases hj:j=i
   ·subst hj;rw[hi]at e1;cases e1;rw[Gr hiσ]at e2
    cases e2;exact⟨u,r,.inr ⟨.inl hk,c,hc,Q3⟩⟩
   ·rw[GF<|Ne.symm hj]at e2;obtain⟨u',r',q⟩:=hl j y v' e1 e2 e3;refine⟨u',r',?_⟩;rcases q with q|⟨k,c',e,z'⟩
    ·exact .inl q
    ·refine .inr ⟨k,c',e,z'.sameBut hs ?_⟩;rintro rfl;exact hj (vw hN e1<|I.ok.inj _ _ _ e hc▸hi)
  ·by_cases Sm:c'=c
   ·subst Sm;exact⟨_,Q3⟩
   ·obtain⟨w2,z2⟩:=I.cell y c' e;exact⟨w2,z2.sameBut hs Sm⟩
  ·obtain⟨e,n,ne,nf,d⟩:=I.pin p hp;refine⟨(hs.2 p.1 ?_).trans e,n,ne,nf,d⟩;intro q;rw[q,hoc]at e;have q':=Option.some.inj e;exact d w' (by rw[<- q'];exact a2a)
theorem gU (I:Inv X ñ σ H s)(hN:X.N.Nodup)(hi:X.N[i]?=some x)(hx:Loc X.env.scope x)(r:RelV v u)(h:∀ s',Inv X ñ (σ.set i (some v)) H s'->Q () s')(hf:autoParam (X.fn x=true\/X.env.scope.names.lookup x=some .local) ś):wpAny M A (storeName X.env x u) Q E s:=
 qp I hN hi hx r (λs' I' _=>h s' I') hf
theorem Inv.Zc (I:Inv X ñ σ H s)(ho:s'.os=s.os)(u:Un (R0 X.stack) ch H H' s.heap s'.heap)(Iq:Mf X.prog X.w H' s'.heap)(hg:AllBare s'.gens)(Sk:∀ b∈ch,(b∈X.ex\/X.s₀.heap.objs.size<=b)/\b≠X.env.locals/\(∀ x c,X.env.cells.lookup x=some c->c≠b)/\∀ p∈X.pn++ñ,p.1≠b):Inv X ñ σ H' s':=by obtain⟨h',g',d',t',o'⟩:=s';have e:=ho;subst e;exact I.call u Iq hg Sk
abbrev _root_.Ø:=Hp->Prop
abbrev XK:=Value->Option Addr->Ø
abbrev St:=List Ç
abbrev VK:=V->Ø
abbrev TE:=St->Hp->VK->Prop
abbrev _root_.Ö:=Bool->Ø
abbrev TT:=St->Hp->Ö->Prop
abbrev TA:=St->Hp->(List V->Ø)->Prop
abbrev _root_.Υ:=St->Ø
structure d8 where
 nx:Υ
 rt:VK
 bk:Υ:=λ_ _=>False
 ct:Υ:=λ_ _=>False
abbrev TS:=d8->Υ
def EP (X:Cx)(ñ:ζ)(σ:St)(Q:VK)(u:Value)(s':Ê):Prop:=∃ v H',Inv X ñ σ H' s'/\RelV v u/\Q v H'
def TP (X:Cx)(ñ:ζ)(σ:St)(Q:Ö)(b:Bool)(s':Ê):Prop:=∃ H',Inv X ñ σ H' s'/\Q b H'
def AP (X:Cx)(ñ:ζ)(σ:St)(Q:List V->Ø)(us:θ)(s':Ê):Prop:=∃ vs H',Inv X ñ σ H' s'/\Vals vs us/\Q vs H'
def SP (X:Cx)(ñ:ζ)(D:d8)(f:Flow)(s':Ê):Prop:=
 match f with
 | .next=>∃ σ' H',Inv X ñ σ' H' s'/\D.nx σ' H'
 | .brk=>∃ σ' H',Inv X ñ σ' H' s'/\D.bk σ' H'
 | .cont=>∃ σ' H',Inv X ñ σ' H' s'/\D.ct σ' H'
 | .ret u=>∃ v σ' H',Inv X ñ σ' H' s'/\RelV v u/\D.rt v H'
def PE (X:Cx)(e:Expr)(t:TE):Prop:=
 ∀ (ñ:ζ)(s:Ê)(σ:St)(H:Hp)(Q:VK),Inv X ñ σ H s->t σ H Q->wpAny (model X.prog X.w) X.A (eval e X.env) (EP X ñ σ Q) X.xe s
def PT (X:Cx)(e:Expr)(t:TT):Prop:=
 ∀ (ñ:ζ)(s:Ê)(σ:St)(H:Hp)(Q:Ö),Inv X ñ σ H s->t σ H Q->wpAny (model X.prog X.w) X.A (isTrue e X.env (eval e X.env)) (TP X ñ σ Q) X.xe s
def PW (X:Cx)(e:Expr)(t:TT):Prop:=
 ∀ (whole:Sem Value)(ñ:ζ)(s:Ê)(σ:St)(H:Hp)(Q:Ö),Inv X ñ σ H s->t σ H Q->wpAny (model X.prog X.w) X.A (isTrue e X.env whole) (TP X ñ σ Q) X.xe s
theorem PW.pt (h:PW X e t):PT X e t:=h _
abbrev _root_.Ì:=List Expr
def PA (X:Cx)(es:Ì)(t:TA):Prop:=
 ∀ (pos:Pos)(ñ:ζ)(s:Ê)(σ:St)(H:Hp)(Q:List V->Ø),Inv X ñ σ H s->t σ H Q->wpAny (model X.prog X.w) X.A (spliced (backTo pos (starEach es X.env))) (AP X ñ σ Q) X.xe s
def PS (X:Cx)(st:Stmt)(t:TS):Prop:=
 ∀ (ñ:ζ)(s:Ê)(σ:St)(H:Hp)(D:d8),Inv X ñ σ H s->t D σ H->wpAny (model X.prog X.w) X.A (exec st X.env) (SP X ñ D) X.xe s
def N6 (X:Cx)(st:List Stmt)(t:TS):Prop:=
 ∀ (ñ:ζ)(s:Ê)(σ:St)(H:Hp)(D:d8),Inv X ñ σ H s->t D σ H->wpAny (model X.prog X.w) X.A (execs st X.env) (SP X ñ D) X.xe s
theorem Iz (h:wpAny M A t Q E s)(hQ:∀ a s,Q a s->Q' a s):wpAny M A t Q' E s:=FJ h hQ λ_ _ x=>x
section
variable {X:Cx}
noncomputable def sn (i:Nat):TE:=λσ H Q=>∃ v,σ[i]?=some (some v)/\Q v H
noncomputable def tC (v:V):TE:=λ_ H Q=>Q v H
abbrev _root_.Ė (x:PySem.Str):Prop:=(x==("__debug__":PySem.Str))=false
theorem V5 (hN:X.N[i]?=some x)(hv:WV X.env.scope x)(hd:autoParam (Ė x) ĩ)(Qv:autoParam ((x==("__classdict__":Str))=false) ĩ):PE X (.Name x pos) (sn i):=by
 intro ñ s σ H Q I h;obtain⟨v,e,h⟩:=h;obtain⟨m,hn,hl⟩:=I.loc;obtain⟨u,r,l⟩:=hl i x v hN e hv;have fin:EP X _ σ Q u s:=⟨v,H,I,r,h⟩
 rcases l with⟨hk,hm⟩|⟨hk,c,hc,Qu⟩
 ·exact wpAny_Name (wpAny_loadName_local I.ok.kind hk hn hm fin) hd
 ·rcases hk with hk|hk
  ·exact wpAny_Name (wpAny_loadName_cell I.ok.kind hk hc Qu fin) hd
  ·exact wpAny_Name (wpAny_loadName_free I.ok.kind hk hc Qu fin Qv) hd
theorem aa {i j pos}:PE X (.Constant (.int i) j pos) (tC (.int i)):=λ_ _ _ H _ I h=>wpAny_Constant_int ⟨.int i,H,I.tok _,⟨_,rfl⟩,h⟩
theorem cG {b j pos}:PE X (.Constant (.bool b) j pos) (tC (.bl b)):=λ_ _ _ H _ I h=>Constant_bool ⟨.bl b,H,I,rfl,h⟩
theorem b6 {j pos}:PE X (.Constant .none j pos) (tC .non):=λ_ _ _ H _ I h=>Constant_none ⟨.non,H,I,rfl,h⟩
theorem bX {x j pos}:PE X (.Constant (.str x) j pos) (tC (.str x)):=λ_ _ _ H _ I h=>Calls.Constant_str ⟨.str x,H,I.tok _,⟨_,rfl⟩,h⟩
def Gl (X:Cx)(x:Str):Prop:=X.env.kindOf x=some .globalImplicit
abbrev _root_.L2.Cx.Ę (X:L2.Cx):=model X.prog X.w
theorem mV (I:Inv X ñ σ H s)(hg:Gl X x)(hm:X.mg x=some u)(h:Q u s)(hd:autoParam (Ė x) ĩ):wpAny X.Ę X.A (eval (.Name x pos) X.env) Q E s:=
 Calls.Name_function_global I.ok.kind hg (Calls.loadGlobal_global (by rw[I.ok.glob];exact I.mod.glob.keeps I.bk) hm h) hd
theorem gx (I:Inv X ñ σ H s)(hg:Gl X x)(hm:X.mg x=none)(hv:bootBuiltins x=some u)(h:Q u s)(hn:autoParam (x≠"__name__") ĩ)(hd:autoParam (Ė x) ĩ):wpAny X.Ę X.A (eval (.Name x pos) X.env) Q E s:=by obtain⟨mb,h1,h2⟩:=I.mod.blt;exact Calls.Name_function_global I.ok.kind hg (Calls.loadGlobal_builtin (by rw[I.ok.glob];exact I.mod.glob.keeps I.bk) hm (by rw[I.ok.blt];exact h1.keeps I.bk) ((h2 x hn).trans hv) h) hd
theorem gk (hg:Gl X x)(hm:X.mg x=some u)(r:RelV v u)(hd:autoParam (Ė x) ĩ):PE X (.Name x pos) (tC v):=
 λ_ _ _ H _ I h=>mV I hg hm ⟨v,H,I,r,h⟩ hd
theorem t8 (hg:Gl X x)(hm:X.mg x=none)(hv:bootBuiltins x=some u)(r:RelV v u)(hn:autoParam (x≠"__name__") ĩ)(hd:autoParam (Ė x) ĩ):PE X (.Name x pos) (tC v):=
 λ_ _ _ H _ I h=>gx I hg hm hv ⟨v,H,I,r,h⟩ hn hd
variable {ta tb:TE}
noncomputable def tB (t:TE):TT:=λσ H Q=>t σ H λx H1=>∃ c,x=.bl c/\Q c H1
theorem cf (h:PE X e t)(he:autoParam (∀ whole,isTrue e X.env whole=(do let v <- whole;standAt e.pos;holding [v] (truthy v))) ŏ):PT X e (tB t):=by
 intro ñ s σ H Q I hw;refine isTrue_plain (Iz (h _ s σ H _ I hw) λv s1 gR=>?_)<|he _;obtain⟨x,H1,I1,r1,q1⟩:=gR;obtain⟨d,rfl,q⟩:=q1
 cases r1;exact FG ⟨H1,I1,q⟩
noncomputable def a03 (t u:TT):TT:=λσ H Q=>t σ H λc H1=>if c=true then u σ H1 Q else Q false H1
noncomputable def tOr (t u:TT):TT:=λσ H Q=>t σ H λc H1=>if c=true then Q true H1 else u σ H1 Q
noncomputable def a0X (t:TT):TT:=λσ H Q=>t σ H λc H1=>Q (!c) H1
theorem gf (ha:PT X a tA):PW X (.BoolOp .And [a] pos) tA:=by
 intro wh ñ s σ H Q I h;refine isTrue_and (Iz (ha _ s σ H Q I h) λc s1 e=>?_)
 cases c with
 | true=>exact isTrue_and_nil e
 | false=>exact e
theorem sV (ha:PT X a tA):PW X (.BoolOp .Or [a] pos) tA:=by
 intro wh ñ s σ H Q I h;refine isTrue_or (Iz (ha _ s σ H Q I h) λc s1 e=>?_)
 cases c with
 | false=>exact isTrue_or_nil e
 | true=>exact e
theorem AZ (ha:PT X a tA)(hb:PW X (.BoolOp .And (b::rest) pos) ZA):PW X (.BoolOp .And (a::b::rest) pos) (a03 tA ZA):=by
 intro wh ñ s σ H Q I h;refine isTrue_and (Iz (ha _ s σ H _ I h) λc s1 gR=>?_);obtain⟨H1,I1,q1⟩:=gR
 cases c with
 | true=>exact hb wh _ s1 σ H1 Q I1 q1
 | false=>exact⟨H1,I1,q1⟩
theorem U2 (ha:PT X a tA)(hb:PW X (.BoolOp .Or (b::rest) pos) ZA):PW X (.BoolOp .Or (a::b::rest) pos) (tOr tA ZA):=by
 intro wh ñ s σ H Q I h;refine isTrue_or (Iz (ha _ s σ H _ I h) λc s1 gR=>?_);obtain⟨H1,I1,q1⟩:=gR
 cases c with
 | true=>exact⟨H1,I1,q1⟩
 | false=>exact hb wh _ s1 σ H1 Q I1 q1
theorem sX (ha:PT X a tA):PT X (.UnaryOp .Not a pos) (a0X tA):=by intro ñ s σ H Q I h;exact isTrue_not (ha _ s σ H (λc H1=>Q _ H1) I h)
noncomputable def Xh (ta tb:TE):TE:=λσ H Q=>ta σ H λx H1=>∃ c,x=.bl c/\if c=true then tb σ H1 Q else Q (.bl false) H1
noncomputable def a0W (ta tb:TE):TE:=λσ H Q=>ta σ H λx H1=>∃ c,x=.bl c/\if c=true then Q (.bl true) H1 else tb σ H1 Q
noncomputable def Xb (ta:TE):TE:=λσ H Q=>ta σ H λx H1=>∃ c,x=.bl c/\Q (.bl (!c)) H1
theorem jk {op}(h:PE X a t):PE X (.BoolOp op [a] pos) t:=λñ s σ H Q I hw=>BoolOp_one (h ñ s σ H Q I hw)
theorem xc (ha:PE X a ta)(hb:PE X (.BoolOp .And (b::rest) pos) tb):PE X (.BoolOp .And (a::b::rest) pos) (Xh ta tb):=by
 intro ñ s σ H Q I h;refine BoolOp_and (Iz (ha _ s σ H _ I h) λv s1 gR=>?_);obtain⟨x,H1,I1,r1,q1⟩:=gR;obtain⟨c,rfl,q1⟩:=q1
 cases r1;refine FG ?_
 cases c with
 | true=>exact hb _ s1 σ H1 Q I1 q1
 | false=>exact⟨.bl false,H1,I1,rfl,q1⟩
theorem XB (ha:PE X a ta)(hb:PE X (.BoolOp .Or (b::rest) pos) tb):PE X (.BoolOp .Or (a::b::rest) pos) (a0W ta tb):=by
 intro ñ s σ H Q I h;refine BoolOp_or (Iz (ha _ s σ H _ I h) λv s1 gR=>?_);obtain⟨x,H1,I1,r1,q1⟩:=gR;obtain⟨c,rfl,q1⟩:=q1
 cases r1;refine FG ?_
 cases c with
 | false=>exact hb _ s1 σ H1 Q I1 q1
 | true=>exact⟨.bl true,H1,I1,rfl,q1⟩
theorem V6 (ha:PE X a ta):PE X (.UnaryOp .Not a pos) (Xb ta):=by
 intro ñ s σ H Q I h;refine UnaryOp_ (Iz (ha _ s σ H _ I h) λv s1 gR=>?_);obtain⟨x,H1,I1,r1,q1⟩:=gR;obtain⟨c,rfl,q1⟩:=q1
 cases r1;exact not_of (FG ⟨.bl _,H1,I1,rfl,q1⟩)
noncomputable def tIf (t:TT)(ta tb:TE):TE:=λσ H Q=>t σ H λc H1=>if c=true then ta σ H1 Q else tb σ H1 Q
theorem B8 (hc:PT X c tA)(ha:PE X a ta)(hb:PE X b tb):PE X (.IfExp c a b pos) (tIf tA ta tb):=by
 intro ñ s σ H Q I h;refine wpAny_IfExp (Iz (hc _ s σ H _ I h) λd s1 gR=>?_);obtain⟨H1,I1,q1⟩:=gR
 cases d with
 | true=>exact ha _ s1 σ H1 Q I1 q1
 | false=>exact hb _ s1 σ H1 Q I1 q1
end
def Il (K:Ψ)(H:Hp)(a:Addr)(xs:π):Prop:=
 Rd H a (.lst xs) \/
  ∃ (o:Obj)(its:Ò)(n:Nat),K.lookup a=some o/\o.cls=.type "list"/\o.dict=none/\o.data=.seq its n/\its.size<=sizeLine/\Vals xs its.toList
def Kc (K:Ψ)(H:Hp)(a:Addr)(xs:π):Prop:=
 Rd H a (.tup xs) \/
  ∃ (o:Obj)(its:Ò)(n:Nat),K.lookup a=some o/\o.cls=.type "tuple"/\o.data=.seq its n/\its.size<=sizeLine/\Vals xs its.toList
noncomputable def a3h:Value->Ç
 | .none=>some .non
 | .bool b=>some (.bl b)
 | .int i _=>some (.int i)
 | .str x _=>some (.str x)
 | .bytes b _=>some (.byt b)
 | .float b _=>some (.flt b)
 | .ref a=>some (.ref a)
 | .type n=>some (.ty n)
 | _=>none
theorem RelV.abs (r:RelV x u):a3h u=some x:=by
 cases x with
 | non=>cases r;rfl
 | bl _=>cases r;rfl
 | int _=>obtain⟨t,rfl⟩:=r;rfl
 | str _=>obtain⟨t,rfl⟩:=r;rfl
 | byt _=>obtain⟨t,rfl⟩:=r;rfl
 | flt _=>obtain⟨t,rfl⟩:=r;rfl
 | ref _=>cases r;rfl
 | ty _=>cases r;rfl
theorem RelV.inj (r:RelV x u)(q:RelV y u):x=y:=Option.some.inj (r.abs.symm.trans q.abs)
theorem Vals.inj:∀ {xs ys:π}{us:θ},Vals xs us->Vals ys us->xs=ys
 | _,_,_,.nil,.nil=>rfl
 | _,_,_,.cons r t,.cons r' t'=>by rw[r.inj r',Vals.inj t t']
theorem Il.of {K:Ψ}(h:H a=some (.lst xs)):Il K H a xs:=.inl (.inl h)
theorem Kc.of {K:Ψ}(h:H a=some (.tup xs)):Kc K H a xs:=.inl (.inl h)
theorem Inv.list (I:Inv X ñ σ H s)(h:Il X.K H a xs):∃ its:θ,Vals xs its/\PlainL s.heap a its.toArray/\xs.length<=sizeLine:=by
 rcases h with h|⟨o,its,n,hk,hc,hd,hs,hz,r⟩
 ·obtain⟨z,its,n,r,e⟩:=h.ok I.Iq;exact⟨its,r,⟨_,n,e,rfl,rfl,rfl⟩,z⟩
 ·refine⟨its.toList,r,⟨o,n,I.N0 a o hk,hc,hd,by simpa using hs⟩,?_⟩;have e:=r.length;simp only[GL]at e;omega
theorem Inv.tuple (I:Inv X ñ σ H s)(h:Kc X.K H a xs):∃ its:θ,Vals xs its/\IsTup s.heap a its.toArray/\xs.length<=sizeLine:=by
 rcases h with h|⟨o,its,n,hk,hc,hs,hz,r⟩
 ·obtain⟨z,its,r,p⟩:=h.ok I.Iq;exact⟨its,r,p,z⟩
 ·refine⟨its.toList,r,⟨o,I.N0 a o hk,hc,n,by simpa using hs⟩,?_⟩;have e:=r.length;simp only[GL]at e;omega
theorem Inv.MG (I:Inv X ñ σ H s)(h:Il X.K H a xs)(h':Il X.K H a ys):xs=ys:=by
 obtain⟨its,r,⟨o,n,e,_,_,d⟩,_⟩:=I.list h;obtain⟨its',r',⟨o',n',e',_,_,d'⟩,_⟩:=I.list h';rw[e]at e';cases e';rw[d]at d';injection d' with d1 _;have:its=its':=by simpa using congrArg Array.toList d1
 subst this;exact r.inj r'
theorem Inv.QA (I:Inv X ñ σ H s)(h:Kc X.K H a xs)(h':Kc X.K H a ys):xs=ys:=by
 obtain⟨its,r,⟨o,e,_,n,d⟩,_⟩:=I.tuple h;obtain⟨its',r',⟨o',e',_,n',d'⟩,_⟩:=I.tuple h';rw[e]at e';cases e';rw[d]at d';injection d' with d1 _;have:its=its':=by simpa using congrArg Array.toList d1
 subst this;exact r.inj r'
noncomputable abbrev Cx.NK (X:Cx)(E:ρ):Cx:={ X with xe:=E }
noncomputable abbrev Cx.QH (X:Cx):Cx:=X.NK λ_ _=>False
theorem Cx.Ok.NK {X:Cx}(ok:X.Ok)(E:ρ):(X.NK E).Ok:=
 ⟨ok.mod,ok.kind,ok.glob,ok.blt,ok.above,ok.inj,ok.has,ok.Zd,ok.hd,ok.frames,ok.ZC,ok.exf,ok.bs,ok.Sx,ok.QJ,ok.Tc,ok.Nv,ok.VZ⟩
theorem Cx.Ok.KH {X:Cx}(ok:(X.NK E).Ok):X.Ok:=
 ⟨ok.mod,ok.kind,ok.glob,ok.blt,ok.above,ok.inj,ok.has,ok.Zd,ok.hd,ok.frames,ok.ZC,ok.exf,ok.bs,ok.Sx,ok.QJ,ok.Tc,ok.Nv,ok.VZ⟩
theorem Inv.NK (I:Inv X ñ σ H s)(E:ρ):Inv (X.NK E) ñ σ H s:=⟨I.ok.NK E,I.os,I.bare,I.base,I.loc,I.cell,I.free,I.Ky,I.pin,I.Iq,I.len⟩
theorem Inv.KH (I:Inv (X.NK E) ñ σ H s):Inv X ñ σ H s:=⟨I.ok.KH,I.os,I.bare,I.base,I.loc,I.cell,I.free,I.Ky,I.pin,I.Iq,I.len⟩
theorem SP.KH {D:d8}(h:SP (X.NK E) ñ D f s'):SP X ñ D f s':=by
 cases f with
 | next=>obtain⟨σ',H',I,q⟩:=h;exact⟨σ',H',I.KH,q⟩
 | brk=>obtain⟨σ',H',I,q⟩:=h;exact⟨σ',H',I.KH,q⟩
 | cont=>obtain⟨σ',H',I,q⟩:=h;exact⟨σ',H',I.KH,q⟩
 | ret u=>obtain⟨v,σ',H',I,r,q⟩:=h;exact⟨v,σ',H',I.KH,r,q⟩
theorem N6.QH {st:List Stmt}(h:N6 X.QH st t):N6 X st t:=λñ s σ H D I hw=>
 FJ (h _ s σ H D (I.NK _) hw) (λ_ _ q=>q.KH) λ_ _ z=>False.elim z
section
variable {st:Stmt}{t u:TS}{te:TE}
noncomputable def Xc:TS:=λD σ H=>D.nx σ H
noncomputable def a0S (t u:TS):TS:=λD σ H=>t { D with nx:=u D } σ H
theorem Jb:N6 X [] Xc:=λ_ _ σ H _ I h=>Hn ⟨σ,H,I,h⟩
theorem aj (h1:PS X st t)(h2:N6 X rest u):N6 X (st::rest) (a0S t u):=by
 intro ñ s σ H D I h;refine wpAny_execs_cons (Iz (h1 _ s σ H { D with nx:=u D } I h) λf s1 q=>?_)
 cases f with
 | next=>
  obtain⟨σ',H',I',q⟩:=q;exact h2 _ s1 σ' H' D I' q
 | ret v=>exact q
 | brk=>exact q
 | cont=>exact q
theorem ar (h1:PS X st t):N6 X [st] t:=by
 intro ñ s σ H D I h;refine wpAny_execs_cons (Iz (h1 _ s σ H D I h) λf s1 q=>?_)
 cases f with
 | next=>exact Hn q
 | ret v=>exact q
 | brk=>exact q
 | cont=>exact q
theorem Inv.quiet (I:Inv X ñ σ H s):interactive X.env=false:=by simp[interactive,I.ok.kind]
noncomputable def AC (te:TE):TS:=λD σ H=>te σ H λ_ H1=>D.nx σ H1
theorem aE (he:PE X e te)(hs:autoParam (swapsWith e none pos.line X.env=pure false) ŕ):PS X (.Expr e pos) (AC te):=by intro ñ s σ H D I h;exact wpAny_Expr_any (Iz (he _ s σ H _ I h) λv s1 gR=>(by obtain⟨x,H1,I1,r1,q1⟩:=gR;exact⟨σ,H1,I1,q1⟩)) I.quiet hs
noncomputable def a0T (te:TE):TS:=λD σ H=>te σ H D.rt
theorem bJ (he:PE X e te):PS X (.Return (some e) pos) (a0T te):=by intro ñ s σ H D I h;exact wpAny_Return_some (Iz (he _ s σ H _ I h) λv s1 gR=>(by obtain⟨x,H1,I1,r1,q1⟩:=gR;exact⟨x,σ,H1,I1,r1,q1⟩))
noncomputable def a0Z (c:TT)(t u:TS):TS:=λD σ H=>c σ H λb H1=>if b=true then t D σ H1 else u D σ H1
theorem io (hc:PT X c tc)(ha:N6 X a t)(hb:N6 X b u):PS X (.If c a b pos) (a0Z tc t u):=by
 intro ñ s σ H D I h;refine wpAny_If (Iz (hc _ s σ H _ I h) λd s1 gR=>?_);obtain⟨H1,I1,q1⟩:=gR
 cases d with
 | true=>exact ha _ s1 σ H1 D I1 q1
 | false=>exact hb _ s1 σ H1 D I1 q1
noncomputable def UK:TS:=λ_ _ _=>False
theorem JN:PS X st UK:=λ_ _ _ _ _ _ h=>h.elim
end
abbrev TG:=V->St->Hp->Υ->Prop
abbrev To:=List V->St->Hp->Υ->Prop
def PG (X:Cx)(target:Expr)(t:TG):Prop:=
 ∀ (ñ:ζ)(s:Ê)(σ:St)(H:Hp)(v:V)(u:Value)(Q:Υ),Inv X ñ σ H s->RelV v u->t v σ H Q->
  wpAny (model X.prog X.w) X.A (assign target X.env u) (λ_ s'=>∃ σ' H',Inv X ñ σ' H' s'/\Q σ' H') X.xe s
def Zo (X:Cx)(ts:Ì)(t:To):Prop:=
 ∀ (ñ:ζ)(s:Ê)(σ:St)(H:Hp)(vs:π)(us:θ)(Q:Υ),Inv X ñ σ H s->Vals vs us->t vs σ H Q->
  wpAny (model X.prog X.w) X.A (assignInOrder ((assignEach ts X.env).map (·.2)) us) (λ_ s'=>∃ σ' H',Inv X ñ σ' H' s'/\Q σ' H') X.xe s
abbrev Wl:=V->V->V->Hp->Ø->Prop
def Zm (X:Cx)(t:Wl):Prop:=
 ∀ (ñ:ζ)(s:Ê)(σ:St)(H:Hp)(o i v:V)(ov iv u:Value)(Q:Ø),Inv X ñ σ H s->RelV o ov->RelV i iv->RelV v u->t o i v H Q->
  wpAny (model X.prog X.w) X.A (setItem ov iv u) (λ_ s'=>∃ H',Inv X ñ σ H' s'/\Q H') X.xe s
abbrev TIp:=V->V->Hp->VK->Prop
def PIp (X:Cx)(op:Operator)(t:TIp):Prop:=
 ∀ (ñ:ζ)(s:Ê)(σ:St)(H:Hp)(x y:V)(v u:Value)(Q:VK),Inv X ñ σ H s->RelV x v->RelV y u->t x y H Q->
  wpAny (model X.prog X.w) X.A (inplaceOp op v u) (EP X ñ σ Q) X.xe s
noncomputable def bU (i:Nat):TG:=λv σ H Q=>Q (σ.set i (some v)) H
theorem yv (hN:X.N.Nodup)(hi:X.N[i]?=some x)(hx:Loc X.env.scope x)(hf:autoParam (X.fn x=true\/X.env.scope.names.lookup x=some .local) ś):PG X (.Name x pos) (bU i):=by intro ñ s σ H v u Q I r h;exact wpAny_assign_Name (gU I hN hi hx r (λs' I'=>⟨_,H,I',h⟩) hf)
noncomputable def VY:To:=λvs σ H Q=>vs=[]/\Q σ H
noncomputable def yM (t:TG)(u:To):To:=λvs σ H Q=>∃ v r,vs=v::r/\t v σ H λσ' H'=>u r σ' H' Q
theorem aD:Zo X [] VY:=by
 intro ñ s σ H vs us Q I r h;obtain⟨e,h⟩:=h;subst e
 cases r;exact assignInOrder_nil ⟨σ,H,I,h⟩
theorem af (h1:PG X e t)(h2:Zo X es u)(hs:autoParam ((assignEach (e::es) X.env).map (·.2)=assign e X.env::(assignEach es X.env).map (·.2)) ŕ):Zo X (e::es) (yM t u):=by
 intro ñ s σ H vs us Q I r h;obtain⟨v,vr,e1,h⟩:=h;subst e1
 cases r with
 | cons r rr=>
  rw[hs];refine assignInOrder_cons (Iz (h1 _ s σ H _ _ _ I r h) λ_ s1 gR=>?_);obtain⟨σ1,H1,I1,q1⟩:=gR;exact h2 _ s1 σ1 H1 _ _ Q I1 rr q1
noncomputable def Aa (K:Ψ)(n:Nat)(t:To):TG:=λv σ H Q=>∃ a xs,v=.ref a/\Kc K H a xs/\xs.length=n/\t xs σ H Q
theorem V3 (hc:X.calm=true)(h:Zo X es t)(hn:autoParam ((assignEach es X.env).length=n) ŕ)(QQ:autoParam ((assignEach es X.env).findIdx? (·.1)=none) ŕ):PG X (.Tuple es k pos) (Aa X.K n t):=by
 intro ñ s σ H v u Q I r hw;obtain⟨a,xs,e1,hq,hl,hw⟩:=hw;subst e1
 cases r;obtain⟨its,rv,ht,hz⟩:=I.tuple hq;refine assign_Tuple_tuple (I.ok.hd hc) ht (by simp[hn,<- hl,rv.length]) QQ λh' hx=>?_;have I1:Inv X _ σ H { s with heap:=h' }:=I.kept λb o e=>hx b o (EL<|E8 e) e;exact h _ _ σ H xs _ Q I1 (rv) hw
noncomputable def YN (to ti:TE)(t:Wl):TG:=λv σ H Q=>to σ H λo H1=>ti σ H1 λi H2=>t o i v H2 λH3=>Q σ H3
theorem V4 (ho:PE X o to)(hi:PE X i ti)(hs:Zm X t)(ha:autoParam (∀ v,assign (.Subscript o i pos) X.env v=(do
   let ov <- holding [v] (eval o X.env);let iv <- holding [v,ov] (eval i X.env)
   standAt pos
   holding [v,ov,iv] (setItem ov iv v)
   release [v,ov,iv] [])) ŏ):PG X (.Subscript o i pos) (YN to ti t):=by
 intro ñ s σ H v u Q I r h;refine DK<|Fn (Iz (ho _ s σ H _ I h) λov s1 gR=>?_);obtain⟨x,H1,I1,r1,q1⟩:=gR;refine DK<|Fn (Iz (hi _ s1 σ H1 _ I1 q1) λiv s2 gR=>?_);obtain⟨y,H2,I2,r2,q2⟩:=gR;refine DK<|wpAny_standAt (DK<|Fn (Iz (hs _ s2 σ H2 x y v ov iv u _ I2 r1 r2 r q2) λ_ s3 gR=>?_));obtain⟨H3,I3,q3⟩:=gR;exact wpAny_release ⟨σ,H3,I3,q3⟩
noncomputable def lY (te:TE)(g:TG):TS:=λD σ H=>te σ H λx H1=>g x σ H1 D.nx
theorem sY (he:PE X e te)(hg:PG X tg g)(hs:autoParam (swapsWithSole [tg] e pos.line X.env=pure false) ŕ)(hw:autoParam (swappedStores [tg] e X.env=pure none) ŕ)(h1:autoParam ((assignEach [tg] X.env).map (·.2)=[assign tg X.env]) ŕ):PS X (.Assign [tg] e pos) (lY te g):=by intro ñ s σ H D I h;refine wpAny_Assign_stores (Iz (he _ s σ H _ I h) λv s1 gR=>?_) hs hw;obtain⟨x,H1,I1,r1,q1⟩:=gR;rw[h1];exact Iz (hg _ s1 σ H1 x v _ I1 r1 q1) λ_ s2 q=>q
theorem UY (hN:X.N.Nodup)(hi:X.N[i]?=some x)(hx:Loc X.env.scope x)(he:PE X e te)(hs:autoParam (swapsWith e (some (.Name x pos')) pos.line X.env=pure false) ŕ)(hf:autoParam (X.fn x=true\/X.env.scope.names.lookup x=some .local) ś):
  PS X (.Assign [.Name x pos'] e pos) (lY te (bU i)):=by
 intro ñ s σ H D I h;refine wpAny_Assign_Name (Iz (he _ s σ H _ I h) λv s1 gR=>?_) hs;obtain⟨y,H1,I1,r1,q1⟩:=gR;exact gU I1 hN hi hx r1 (λs2 I2=>⟨_,H1,I2,q1⟩) hf
noncomputable def a0U (i j:Nat)(ta:TA):TS:=λD σ H=>ta σ H λvs H1=>∃ v w,vs=[v,w]/\D.nx ((σ.set i (some v)).set j (some w)) H1
theorem UZ {kt k2 pt2}(hc:X.calm=true)(hN:X.N.Nodup)(hi:X.N[i]?=some x)(hj:X.N[j]?=some y)(hij:i≠j)(hx:X.env.scope.names.lookup x=some .local)(hy:X.env.scope.names.lookup y=some .local)(ha:PA X [a,b] ta)(hw:swappedStores [.Tuple [.Name x px,.Name y py] kt pt] (.Tuple [a,b] k2 pt2) X.env=pure (some [x,y]))(hs:autoParam (swapsWithSole [.Tuple [.Name x px,.Name y py] kt pt] (.Tuple [a,b] k2 pt2) pos.line X.env=pure false) ŕ):
  PS X (.Assign [.Tuple [.Name x px,.Name y py] kt pt] (.Tuple [a,b] k2 pt2) pos) (a0U i j ta):=by
 intro ñ s σ H D I h;refine DK (wpAny_standAt ?_);refine DK (DW ?_);refine DK<|Tuple_ (Iz (ha _ _ s σ H _ I h) λus s1 gR=>?_);obtain⟨vs,H1,I1,r1,q1⟩:=gR;obtain⟨v,w,e1,q1⟩:=q1;subst e1;obtain⟨u1,u2,rfl,rv,Oe⟩:∃ u1 u2,us=[u1,u2]/\RelV v u1/\RelV w u2:=by
  cases r1 with
  | cons p q=>
   cases q with
   | cons p' q'=>
    cases q';exact⟨_,_,rfl,p,p'⟩
 refine GQ ?_ (by show 2<=sizeLine;decide);have I2:Inv X _ σ H1 { s1 with heap:=s1.heap.push { cls:=.type "tuple",data:=.seq [u1,u2].toArray } }:=I1.kept λb o e=>DU _ e;rw[hw];refine DK (DW ?_);refine DK<|wpAny_rule (DK (unpackItems_tuple (items:=#[u1,u2]) (I.ok.hd hc) (IsTup.new _ _) λh' QO=>?_));have I3:=I2.kept (t':=s1.toks) λb o e=>QO b o (EL<|E8 e) e;refine DK<|assignInOrder_cons (wpAny_bindName<|gU I3 hN hj (.inl hy) Oe (λs2 I4=>?_) (.inr hy));refine assignInOrder_cons<|wpAny_bindName (gU I4 hN hi (.inl hx) rv (λs3 I5=>assignInOrder_nil (DW ?_))<|.inr hx);rw[List.set_comm _ _<|Ne.symm hij]at I5;exact⟨_,H1,I5,q1⟩
noncomputable def Xg (i:Nat)(te:TE)(ti:TIp):TS:=λD σ H=>∃ x,σ[i]?=some (some x)/\te σ H λy H1=>ti x y H1 λz H2=>D.nx (σ.set i (some z)) H2
theorem x8 (hN:X.N.Nodup)(hi:X.N[i]?=some x)(hx:Loc X.env.scope x)(he:PE X e te)(ho:PIp X op ti)(hf:autoParam (X.fn x=true\/X.env.scope.names.lookup x=some .local) ś):
  PS X (.AugAssign (.Name x pos') op e pos) (Xg i te ti):=by
 intro ñ s σ H D I h;obtain⟨v,e1,h⟩:=h;obtain⟨m,hn,hl⟩:=I.loc;have vis:WV X.env.scope x:=by rcases hx with k|k;exact .inl k;exact .inr (.inl k)
 obtain⟨u,r,l⟩:=hl i x v hi e1 vis;refine wpAny_AugAssign_Name ?_;have go:wpAny X.Ę X.A (eval e X.env) (λw s₂=>wpAny X.Ę X.A (inplaceOp op u w) (λr s₃=>wpAny X.Ę X.A (storeName X.env x r) (λ_=>SP X ñ D .next) X.xe s₃) X.xe s₂) X.xe s:=by refine Iz (he _ s σ H _ I h) λw s1 gR=>?_;obtain⟨y,H1,I1,r1,q1⟩:=gR;refine Iz (ho _ s1 σ H1 v y u w _ I1 r r1 q1) λz s2 gR=>?_;obtain⟨zv,H2,I2,r2,q2⟩:=gR;exact gU I2 hN hi hx r2 (λs3 I3=>⟨_,H2,I3,q2⟩) hf
 rcases l with⟨hk,hm⟩|⟨hk,c,hc,Qu⟩
 ·exact wpAny_loadName_local I.ok.kind hk hn hm go
 ·rcases hk with hk|hk
  ·exact wpAny_loadName_cell I.ok.kind hk hc Qu go
  ·rcases hx with k|k
   ·have:X.env.scope.names.lookup x=some .free:=hk;rw[k]at this;cases this
   ·have:X.env.scope.names.lookup x=some .free:=hk;rw[k]at this;cases this
noncomputable def ipI (f:Int->Int->Int):TIp:=λx y H Q=>∃ i j,x=.int i/\y=.int j/\Q (.int (f i j)) H
theorem xI:PIp X .Add (ipI λi j=>i+j):=by intro ñ s σ H x y v u Q I r1 r2 h;obtain⟨i,j,e1,e2,q⟩:=h;subst e1;subst e2;obtain⟨t,rfl⟩:=r1;obtain⟨t',rfl⟩:=r2;exact iadd_int ⟨.int _,H,I.tok _,⟨_,rfl⟩,q⟩
noncomputable def UJ (c:TT)(tb:TS):TS:=λD σ H=>∃ W:Nat->Υ,(∃ m,W m σ H)/\∀ m σ H,W m σ H->
 c σ H λb H1=>if b=true then ∃ N:Υ,(∀ σ' H',N σ' H'->∃ m',m'<m/\W m' σ' H')/\tb { D with nx:=N,ct:=N,bk:=D.nx } σ H1 else D.nx σ H1
theorem B0 {tb:TS}(hp:PassesOwn X.Ę X.A X.env X.xe)(hc:PT X c tc)(hb:N6 X body tb):PS X (.While c body [] pos) (UJ tc tb):=by
 intro ñ s σ H D I h;obtain⟨W,⟨m0,w0⟩,turn⟩:=h;refine wpAny_While (codeAny_whileLoop (λn s'=>∃ σ' H',Inv X _ σ' H' s'/\W n σ' H') ?_ m0 ⟨σ,H,I,w0⟩);rintro n s1 ⟨σ1,H1,I1,w1⟩;refine Gv hp (Iz (hc _ s1 σ1 H1 _ I1<|turn n σ1 H1 w1) λb s2 gR=>?_);obtain⟨H2,I2,q2⟩:=gR
 cases b with
 | true=>
  obtain⟨N,hN,q2⟩:=q2;refine Gv hp (Iz (hb _ s2 σ1 H2 _ I2 q2) λf s3 q3=>?_)
  cases f with
  | next=>
   obtain⟨σ3,H3,I3,n3⟩:=q3;obtain⟨m',hm,w3⟩:=hN σ3 H3 n3;exact⟨m',hm,σ3,H3,I3,w3⟩
  | cont=>
   obtain⟨σ3,H3,I3,n3⟩:=q3;obtain⟨m',hm,w3⟩:=hN σ3 H3 n3;exact⟨m',hm,σ3,H3,I3,w3⟩
  | brk=>exact q3
  | ret v=>exact q3
 | false=>
  exact Hn ⟨σ1,H2,I2,q2⟩
structure It where
 go:Nat->Ø
 S9:Nat->Hp->V->Ø
 stop:Nat->Ø
def lI (X:Cx)(ñ:ζ)(H:Hp)(b:Addr):Prop:=
 H b=none/\b≠X.env.locals/\b∉X.fs/\(b∈X.ex\/X.s₀.heap.objs.size<=b)/\(∀ x c,X.env.cells.lookup x=some c->c≠b)/\∀ p∈X.pn++ñ,p.1≠b
theorem Inv.OW (I:Inv X ñ σ H s)(hb:s.heap.objs.size<=b)(hn:H' b=none):lI X ñ H' b:=by
 refine⟨hn,FQ<|Ey I.lt hb,I.XO hb,.inr<|Ei I.sz hb,λx c e z=>?_,λp hp z=>?_⟩
 ·obtain⟨v,q⟩:=I.cell x c e;exact absurd (Ey q.lt (by rw[z];exact hb)) (Fc _)
 ·exact absurd (Ey (E8 (I.pin p hp).1) (by rw[z];exact hb)) (Fc _)
structure Uw (Cc:Cx->Prop) (P:É) (w:World) (K:Ψ) (tg:Expr) (J:It) (fp:υ) (it:Addr) (tn:Nat->Heap->Prop):Prop where
 mem:it∈fp
 obj:∀ i h,tn i h->∀ b∈fp,∃ o,h.get? b=some o/\∀ v,o.data≠.cell v
 keep:∀ i h h',tn i h->(∀ b∈fp,∀ o,h.get? b=some o->h'.get? b=some o)->tn i h'
 item:∀ (X:Cx),X.prog=P->X.w=w->X.K=K->Cc X->∀ (i:Nat)(ñ:ζ)(s:Ê)(σ:St)(H:Hp)(E:ρ),Inv X ñ σ H s->(∀ b∈fp,lI X ñ H b)->tn i s.heap->J.go i H ->
  wpAny (model P w) X.A (pyNext (.ref it)) (λr s1=>∃ u,r=some u /\
   wpAny (model P w) X.A (letOwnedTupleGo tg (.ref it) u) (λ_ s2=>∃ x H',Inv X ñ σ H' s2/\RelV x u/\J.S9 i H x H'/\tn (i+1) s2.heap/\∀ b∈fp,H' b=none) E s1) E s
 done:∀ (X:Cx),X.prog=P->X.w=w->X.K=K->Cc X->∀ (i:Nat)(ñ:ζ)(s:Ê)(σ:St)(H:Hp)(E:ρ),Inv X ñ σ H s->(∀ b∈fp,lI X ñ H b)->tn i s.heap->J.stop i H ->
  wpAny (model P w) X.A (pyNext (.ref it)) (λr s1=>r=none/\Inv X ñ σ H s1) E s
 self:∀ (A:Ë)(i:Nat)(s:Ê)(Q:ρ)(E:ρ),tn i s.heap->Q (.ref it) s->wpAny (model P w) A (pyIter (.ref it)) Q E s
abbrev wD:=Uw λX=>X.calm=true
abbrev TI:=St->Hp->(It->Ø)->Prop
def Zn (Cc:Cx->Prop)(X:Cx)(ñ:ζ)(σ:St)(tg:Expr)(R:It->Ø)(itv:Value)(s2:Ê):Prop:=
 ∃ (it:Addr)(fp:υ)(tn:Nat->Heap->Prop)(J:It)(H':Hp),itv=.ref it/\Inv X ñ σ H' s2/\Uw Cc X.prog X.w X.K tg J fp it tn/\tn 0 s2.heap/\(∀ b∈fp,lI X ñ H' b)/\R J H'
def PI0 (Cc:Cx->Prop)(X:Cx)(tg iter:Expr)(wi:TI):Prop:=
 ∀ (ñ:ζ)(s:Ê)(σ:St)(H:Hp)(R:It->Ø),Inv X ñ σ H s->wi σ H R->
  wpAny (model X.prog X.w) X.A (eval iter X.env) (λv s1=>wpAny (model X.prog X.w) X.A (pyIter v) (Zn Cc X ñ σ tg R) X.xe s1) X.xe s
abbrev PIE:=Zn λX=>X.calm=true
abbrev PI:=PI0 λX=>X.calm=true
theorem rp (ho : s.heap.get? it = some o)(hc : o.cls = .type n)(hd : o.data = .fields vs)(hn : ["enumerate", "zip", "dict_itemiterator", "dict_reverseitemiterator", "odict_iterator", "itertools.zip_longest", "itertools.pairwise"].contains n = false)(hQ : Q () s): wpAny M A (letOwnedTupleGo tg (.ref it) u) Q E s := by
  cases tg <;> first
    | exact DW hQ
    | (cases u <;> first
        | exact DW hQ
        | (refine DK (wpAny_load ho ?_)
           rw [hc, hd];show wpAny M A (if _ = true then _ else _) Q E s;rw [if_neg (by intro h; rw [hn, Bool.false_and] at h; cases h)];exact DW hQ))
noncomputable def UA (K:Ψ)(a:Addr):It:=
 ⟨λi H=>∃ xs x,Il K H a xs/\xs[i]?=some x,λi H x H'=>H'=H/\∀ xs,Il K H a xs->xs[i]?=some x,λi H=>∃ xs,Il K H a xs/\xs.length<=i⟩
noncomputable def Itt (K:Ψ)(a:Addr):It:=
 ⟨λi H=>∃ xs x,Kc K H a xs/\xs[i]?=some x,λi H x H'=>H'=H/\∀ xs,Kc K H a xs->xs[i]?=some x,λi H=>∃ xs,Kc K H a xs/\xs.length<=i⟩
noncomputable def Uz (lo:Int)(n:Nat):It:=⟨λi _=>i<n,λi H x H'=>H'=H/\x=.int (lo+i),λi _=>n<=i⟩
theorem qj {P:É}{w:World}{K:Ψ}{tg:Expr} (a it:Addr):wD P w K tg (UA K a) [it] it (λi h=>h.IsListIter it a i) where
 mem:=by simp
 obj:=λi h st b hb=>by
  have e:b=it:=by simpa using hb
  subst e;obtain⟨o,e,c,d⟩:=st;exact⟨o,e,λv z=>by rw[d]at z;cases z⟩
 keep:=λi h h' st k=>st.at λo e=>k it (by simp) o e
 item:=by intro X hP hw hK hc i ñ s σ H E I hf st hg;subst hP hw hK;obtain⟨xs,x,hq,hx⟩:=hg;obtain⟨its,rv,p,hz⟩:=I.list hq;obtain⟨u,hu,ru⟩:=rv.get hx;obtain⟨f0,f1,f2,f3,f4,f5⟩:=hf it (by simp);refine wpAny_pyNext_list_item st p.isList (by simpa using hu) λh' OK sb=>?_;have I1:Inv X _ σ H { s with heap:=h' }:=I.turned (λb o hb e=>(sb.2 b hb).trans e) f0 f1 f3 f4 f5;obtain⟨o,e,c,d⟩:=id OK;exact⟨u,rfl,rp e c d (by decide) ⟨x,H,I1,ru,⟨rfl,λys hy=>by rw[I.MG hy hq];exact hx⟩,OK,λb hb=>(hf b hb).1⟩⟩
 done:=by intro X hP hw hK hc i ñ s σ H E I hf st hg;subst hP hw hK;obtain⟨xs,hq,hx⟩:=hg;obtain⟨its,rv,p,hz⟩:=I.list hq;obtain⟨f0,f1,f2,f3,f4,f5⟩:=hf it (by simp);have hl:=rv.length;exact wpAny_pyNext_list_end (I.ok.hd hc) st p.isList (by simp;omega) λh' eb=>⟨rfl,I.turned (λb o hb e=>eb b o hb e) f0 f1 f3 f4 f5⟩
 self:=λ_ _ _ _ _ st h=>wpAny_pyIter_listiter st h
theorem wM {P:É}{w:World}{K:Ψ}{tg:Expr} (a it:Addr):wD P w K tg (Itt K a) [it] it (λi h=>h.IsTupleIter it a i) where
 mem:=by simp
 obj:=λi h st b hb=>by
  have e:b=it:=by simpa using hb
  subst e;obtain⟨o,e,c,d⟩:=st;exact⟨o,e,λv z=>by rw[d]at z;cases z⟩
 keep:=λi h h' st k=>st.at λo e=>k it (by simp) o e
 item:=by intro X hP hw hK hc i ñ s σ H E I hf st hg;subst hP hw hK;obtain⟨xs,x,hq,hx⟩:=hg;obtain⟨its,rv,p,hz⟩:=I.tuple hq;obtain⟨u,hu,ru⟩:=rv.get hx;obtain⟨f0,f1,f2,f3,f4,f5⟩:=hf it (by simp);refine wpAny_pyNext_tuple_item st (p) (by simpa using hu) λh' OK sb=>?_;have I1:Inv X _ σ H { s with heap:=h' }:=I.turned (λb o hb e=>(sb.2 b hb).trans e) f0 f1 f3 f4 f5;obtain⟨o,e,c,d⟩:=id OK;exact⟨u,rfl,rp e c d (by decide) ⟨x,H,I1,ru,⟨rfl,λys hy=>by rw[I.QA hy hq];exact hx⟩,OK,λb hb=>(hf b hb).1⟩⟩
 done:=by intro X hP hw hK hc i ñ s σ H E I hf st hg;subst hP hw hK;obtain⟨xs,hq,hx⟩:=hg;obtain⟨its,rv,p,hz⟩:=I.tuple hq;obtain⟨f0,f1,f2,f3,f4,f5⟩:=hf it (by simp);have hl:=rv.length;exact wpAny_pyNext_tuple_end (I.ok.hd hc) st (p) (by simp;omega) λh' eb=>⟨rfl,I.turned (λb o hb e=>eb b o hb e) f0 f1 f3 f4 f5⟩
 self:=λ_ _ _ _ _ st h=>wpAny_pyIter_tupleiter st h
abbrev _root_.Φ:=PySem.W.Frag
theorem wN {P:É}{w:World}{K:Φ}{tg:Expr} (it:Addr) (lo:Int) (n:Nat):wD P w K tg (Uz lo n) [it] it (λi h=>IsRangeIter h it (lo+(i:Nat) * 1) ((n:Int) - (i:Nat)) 1) where
 mem:=by simp
 obj:=λi h st b hb=>by
  have e:b=it:=by simpa using hb
  subst e;exact⟨_,st,λv z=>by
   have z':=z
   cases z'⟩
 keep:=λi h h' st k=>k it (by simp) _ st
 item:=by intro X hP hw hK hc i ñ s σ H E I hf st hg;subst hP hw hK;obtain⟨f0,f1,f2,f3,f4,f5⟩:=hf it (by simp);have W:=Walks.range (prog:=X.prog) (w:=X.w) (I.ok.hd hc) it lo 1 n;refine W.item i s _ _ hg st λv h' tk hv OK kk=>?_;obtain⟨t,rfl⟩:=hv;have I1:Inv X _ σ H { s with heap:=h',toks:=tk }:=I.turned (λb o hb e=>kk b o (by simpa using hb) e) f0 f1 f3 f4 f5;refine⟨_,rfl,rp OK rfl rfl (by decide) ⟨.int _,H,I1,⟨t,?_⟩,⟨rfl,rfl⟩,OK,λb hb=>(hf b hb).1⟩⟩;rw[HJ]
 done:=by intro X hP hw hK hc i ñ s σ H E I hf st hg;obtain⟨f0,f1,f2,f3,f4,f5⟩:=hf it (by simp);exact wpAny_pyNext_range_end (I.ok.hd hc) st (by have:n<=i:=hg;omega) λh' eb=>⟨rfl,I.turned (λb o hb e=>eb b o hb e) f0 f1 f3 f4 f5⟩
 self:=λ_ _ _ _ _ st h=>wpAny_pyIter_rangeiter st h
noncomputable def Ud (K:Ψ)(tl:TE):TI:=λσ H R=>tl σ H λx H1=>∃ a,x=.ref a/\(∃ xs,Il K H1 a xs)/\R (UA K a) H1
theorem CT (hl:PE X l tl):PI X tg l (Ud X.K tl):=by
 intro ñ s σ H R I h;refine Iz (hl _ s σ H _ I h) λv s1 gR=>?_;obtain⟨x,H1,I1,r1,q1⟩:=gR;obtain⟨a,e,⟨xs,hq⟩,q⟩:=q1;subst e
 cases r1;obtain⟨its,rv,p,hz⟩:=I1.list hq;refine GP p.isList ?_;refine⟨s1.heap.objs.size,[s1.heap.objs.size],_,_,H1,rfl,I1.kept λb o e=>DU _ e,qj a _,⟨_,Eb _ rfl,rfl,rfl⟩,λb hb=>?_,q⟩;have e:b=s1.heap.objs.size:=by simpa using hb
 subst e;exact I1.OW (DV _) (I1.Iq.fresh<|DV _)
theorem uW {lo:Int}(I:Inv X ñ σ H s)(h1:-(2 ^ 62)<=lo)(h2:lo<2 ^ 62)(h3:-(2 ^ 62)<=hi)(h4:hi<2 ^ 62)(q:R (Uz lo (hi - lo).toNat) H):wpAny X.Ę X.A (pyIter (.ref s.heap.objs.size)) (PIE X ñ σ tg R) E { s with heap:=s.heap.push { cls:=.type "range",data:=.fields #[.int lo t,.int hi u,.int 1 v] },toks:=tk }:=by
 refine wpAny_pyIter_range (IsRange.new ..) (small_one h1 h2 h3 h4) ?_;have I1:Inv X _ σ H { s with heap:=s.heap.push { cls:=.type "range",data:=.fields #[.int lo t,.int hi u,.int 1 v] },toks:=tk }:=I.kept λb o e=>DU _ e;refine⟨(s.heap.push { cls:=.type "range",data:=.fields #[.int lo t,.int hi u,.int 1 v] }).objs.size,[(s.heap.push { cls:=.type "range",data:=.fields #[.int lo t,.int hi u,.int 1 v] }).objs.size],_,_,H,rfl,
  I1.kept λb o e=>DU _ e,wN _ lo (hi - lo).toNat,?_,λb hb=>?_,q⟩
 ·have e1:lo+((0:Nat)) * 1=lo:=by simp
  have e2:((hi - lo).toNat) - ((0:Nat))=Builtin.Range.rangeSize lo hi 1:=by rw[rangeSize_one];split <;> omega
  rw[e1,e2];exact Eb _ rfl
 ·have e:b=(s.heap.push { cls:=.type "range",data:=.fields #[.int lo t,.int hi u,.int 1 v] }).objs.size:=by simpa using hb
  subst e;exact I1.OW (DV _) (I1.Iq.fresh<|DV _)
noncomputable def Y7 (ta:TA):TI:=λσ H R=>ta σ H λvs H1=>∃ j:Int,vs=[.int j]/\-(2 ^ 62)<=j/\j<2 ^ 62/\R (Uz 0 j.toNat) H1
noncomputable def Y6 (ta:TA):TI:=λσ H R=>ta σ H λvs H1=>∃ i j:Int,vs=[.int i,.int j]/\(-(2 ^ 62)<=i/\i<2 ^ 62/\-(2 ^ 62)<=j/\j<2 ^ 62)/\R (Uz i (j - i).toNat) H1
theorem qx (hg:Gl X "range")(hm:X.mg "range"=none)(ha:PA X [a] ta)(hs:autoParam (starEach [a] X.env=[(false,eval a X.env)]) ŕ):PI X tg (.Call (.Name "range" p) [a] [] pos) (Y7 ta):=by
 intro ñ s σ H R I h;refine Call_<|gx I hg hm boot_range (F7 (Iz (ha pos _ s σ H _ I h) λus s1 gR=>?_) hs rfl);obtain⟨vs,H1,I1,r1,q1⟩:=gR;obtain⟨j,e,q1,q2,q⟩:=q1;subst e
 cases r1 with
 | cons r rr=>
  cases rr;obtain⟨t,rfl⟩:=r;exact call_range_1 (uW I1 (by omega) (by omega) q1 q2<|by simpa using q)
theorem qw (hg:Gl X "range")(hm:X.mg "range"=none)(ha:PA X [a,b] ta)(hs:autoParam (starEach [a,b] X.env=[(false,eval a X.env),(false,eval b X.env)]) ŕ)(OR:autoParam (starEach [b] X.env=[(false,eval b X.env)]) ŕ):
  PI X tg (.Call (.Name "range" p) [a,b] [] pos) (Y6 ta):=by
 intro ñ s σ H R I h;refine Call_<|gx I hg hm boot_range (F7 (Iz (ha pos _ s σ H _ I h) λus s1 gR=>?_) (by rw[hs,OR]) (by rw[OR];rfl));obtain⟨vs,H1,I1,r1,q1⟩:=gR;obtain⟨i,j,e,⟨q1,q2,q3,q4⟩,q⟩:=q1;subst e
 cases r1 with
 | cons r rr=>
  cases rr with
  | cons r' rr=>
   cases rr;obtain⟨t,rfl⟩:=r;obtain⟨t',rfl⟩:=r';exact call_range_2 (uW I1 q1 q2 q3 q4 q)
noncomputable def a01 (wi:TI)(g:TG)(tb:TS):TS:=λD σ H=>wi σ H λJ H1=>∃ W:Nat->Nat->Υ,(∃ m,W 0 m σ H1)/\∀ i m σ H,W i m σ H->
 (J.stop i H/\D.nx σ H)\/(J.go i H/\∃ N:Υ,(∀ σ' H',N σ' H'->∃ m',m'<m/\W (i+1) m' σ' H')/\∀ x H',J.S9 i H x H'->g x σ H' λσ2 H2=>tb { D with nx:=N,ct:=N,bk:=D.nx } σ2 H2)
noncomputable def nX (fp:υ)(h:Heap):ζ:=fp.filterMap λb=>(h.get? b).map λo=>(b,o)
theorem gv (hb:b∈fp)(e:h.get? b=some o):(b,o)∈nX fp h:=List.mem_filterMap.mpr ⟨b,hb,by rw[e];rfl⟩
theorem zJ (hp:p∈nX fp h):p.1∈fp/\h.get? p.1=some p.2:=by
 obtain⟨b,hb,e⟩:=List.mem_filterMap.mp hp
 cases q:h.get? b with
 | none=>rw[q]at e;cases e
 | some o=>
  rw[q]at e;have e':=Option.some.inj e;subst e';exact⟨hb,q⟩
theorem Inv.pinned (I:Inv X ñ σ H s)(hf:∀ b∈fp,lI X ñ H b)(ho:∀ b∈fp,∃ o,s.heap.get? b=some o/\∀ v,o.data≠.cell v):Inv X (ñ++nX fp s.heap) σ H s:=
 I.Qm λp hp=>(Ea.mp hp).elim (λz=>I.pin p<|Ec _ z) λz=>by obtain⟨hb,e⟩:=zJ z;obtain⟨f0,f1,f2,_⟩:=hf p.1 hb;obtain⟨o,e',d⟩:=ho p.1 hb;rw[e]at e';cases e';exact⟨e,f0,f1,f2,d⟩
theorem Inv.Lb (I:Inv X (ñ++pl) σ H s):Inv X ñ σ H s:=I.Qm λp hp=>I.pin p (Ec _<|Ew _ hp)
abbrev _root_.ĕ (X:L2.Cx)(iter:PySem.Expr):Prop:=∀ x,foldedSetIterable iter X.env x=pure x
theorem bV {tb:TS}(hp:PassesOwn X.Ę X.A X.env X.xe)(hc:X.calm=true)(hi:PI X tg iter wi)(hg:PG X tg g)(hb:N6 X body tb)(hs:autoParam (ĕ X iter) ŏ):PS X (.For tg iter body [] pos) (a01 wi g tb):=by
 intro ñ s σ H D I h;refine wpAny_For (Iz (hi _ s σ H _ I h) λv s1 h1=>Iz h1 λitv s2 h2=>?_) hs;obtain⟨it,fp,tn,J,H2,e,I2,T,ZD,f2,W,⟨m0,w0⟩,turn⟩:=h2;subst e;have stat:∀ {H':Hp},(∀ b∈fp,H' b=none)->∀ b∈fp,lI X _ H' b:=λhn b hb=>⟨hn b hb,(f2 b hb).2⟩
 refine codeAny_forLoop_any (λn s'=>∃ i σ' H',Inv X _ σ' H' s'/\tn i s'.heap/\(∀ b∈fp,H' b=none)/\W i n σ' H') ?_ m0 ⟨0,σ,H2,I2,ZD,λb hb=>(f2 b hb).1,w0⟩;rintro n s3 ⟨i,σ3,H3,I3,st3,fr3,w3⟩;rcases turn i n σ3 H3 w3 with⟨stop,qn⟩|⟨go,N,hN,step⟩
 ·refine Gv hp (Iz (T.done X rfl rfl rfl hc i _ s3 σ3 H3 _ I3 (stat fr3) st3 stop) λr s4 gR=>?_);obtain⟨hr,I4⟩:=gR;subst hr;exact Hn ⟨σ3,H3,I4,qn⟩
 ·refine Gv hp (Iz (T.item X rfl rfl rfl hc i ñ s3 σ3 H3 _ I3 (stat fr3) st3 go) λr s4 gR=>?_);obtain⟨u,hr,h4⟩:=gR;subst hr;refine Gv hp (Iz h4 λ_ s5 gR=>?_);obtain⟨x,H5,I5,r5,y5,Wv,fr5⟩:=gR;have I5':=I5.pinned (stat fr5)<|T.obj _ _ Wv;refine Gv hp (Iz (hg _ s5 σ3 H5 x u _ I5' r5<|step x H5 y5) λ_ s6 gR=>?_);obtain⟨σ6,H6,I6,q6⟩:=gR;refine Gv hp (Iz (hb _ s6 σ6 H6 _ I6 q6) λf s7 q7=>?_);have again:∀ {σ7:St}{H7:Hp},Inv X _ σ7 H7 s7->N σ7 H7->∃ m,m<n/\∃ i σ' H',Inv X ñ σ' H' s7/\tn i s7.heap/\(∀ b∈fp,H' b=none)/\W i m σ' H':=λ{σ7 H7} I7 n7=>by obtain⟨m',hm,w7⟩:=hN σ7 H7 n7;refine⟨m',hm,i+1,σ7,H7,I7.Lb,T.keep _ _ _ Wv λb hb o e=>(I7.pin _<|Ec _ (Ec _<|gv hb e)).1,λb hb=>?_,w7⟩;obtain⟨o,e,d⟩:=T.obj _ _ Wv b hb;exact (I7.pin _<|Ec _ (Ec _<|gv hb e)).2.1
  cases f with
  | next=>obtain⟨σ7,H7,I7,n7⟩:=q7;exact again I7 n7
  | cont=>obtain⟨σ7,H7,I7,n7⟩:=q7;exact again I7 n7
  | brk=>obtain⟨σ7,H7,I7,q7⟩:=q7;exact⟨σ7,H7,I7.Lb,q7⟩
  | ret v=>obtain⟨x7,σ7,H7,I7,r7,q7⟩:=q7;exact⟨x7,σ7,H7,I7.Lb,r7,q7⟩
theorem fV {K:Φ}{g:TG}{tb:TS}{D:d8}(Pv:Nat->Υ)(h0:Pv 0 σ H)(hl:∀ i σ H,i<=xs.length->Pv i σ H->Il K H a xs)(hs:∀ i x σ H,xs[i]?=some x->Pv i σ H->g x σ H λσ2 H2=>tb { D with nx:=Pv (i+1),ct:=Pv (i+1),bk:=D.nx } σ2 H2)(hd:∀ σ H,Pv xs.length σ H->D.nx σ H):
  ∃ W:Nat->Nat->Υ,(∃ m,W 0 m σ H)/\∀ i m σ H,W i m σ H->
   ((UA K a).stop i H/\D.nx σ H)\/((UA K a).go i H/\∃ N:Υ,(∀ σ' H',N σ' H'->∃ m',m'<m/\W (i+1) m' σ' H')/\∀ x H',(UA K a).S9 i H x H'->g x σ H' λσ2 H2=>tb { D with nx:=N,ct:=N,bk:=D.nx } σ2 H2):=by
 refine⟨λi m σ H=>m=xs.length - i/\i<=xs.length/\Pv i σ H,⟨xs.length,by simp,EE _,h0⟩,?_⟩;rintro i m σ H ⟨rfl,hi,p⟩;have q:=hl i σ H hi p;by_cases Kb:i<xs.length
 ·refine .inr ⟨⟨xs,xs[i],q,by simp⟩,Pv _,λσ' H' p'=>⟨xs.length - _,by omega,rfl,Kb,p'⟩,λx H' y=>?_⟩;obtain⟨e,y⟩:=y;subst e;exact hs i x σ _ (y xs q) p
 ·have e:i=xs.length:=by omega
  subst e;exact .inl ⟨⟨xs,q,DV _⟩,hd σ H p⟩
theorem rq {lo:Int}{g:TG}{tb:TS}{D:d8}(Pv:Nat->Υ)(h0:Pv 0 σ H)(hs:∀ i σ H,i<n->Pv i σ H->g (.int (lo+i)) σ H λσ2 H2=>tb { D with nx:=Pv (i+1),ct:=Pv (i+1),bk:=D.nx } σ2 H2)(hd:∀ σ H,Pv n σ H->D.nx σ H):
  ∃ W:Nat->Nat->Υ,(∃ m,W 0 m σ H)/\∀ i m σ H,W i m σ H->
   ((Uz lo n).stop i H/\D.nx σ H)\/((Uz lo n).go i H/\∃ N:Υ,(∀ σ' H',N σ' H'->∃ m',m'<m/\W (i+1) m' σ' H')/\∀ x H',(Uz lo n).S9 i H x H'->g x σ H' λσ2 H2=>tb { D with nx:=N,ct:=N,bk:=D.nx } σ2 H2):=by
 refine⟨λi m σ H=>m=n - i/\i<=n/\Pv i σ H,⟨n,by simp,EE _,h0⟩,?_⟩;rintro i m σ H ⟨rfl,hi,p⟩;by_cases Kb:i<n
 ·refine .inr ⟨Kb,Pv _,λσ' H' p'=>⟨n - _,by omega,rfl,Kb,p'⟩,λx H' y=>?_⟩;obtain⟨e,y⟩:=y;subst e y;exact hs i σ _ Kb p
 ·have e:i=n:=by omega
  subst e;exact .inl ⟨DV _,hd σ H p⟩
abbrev R2:=V->V->Hp->VK->Prop
def JT (X:Cx)(f:Value->Value->Sem Value)(r:R2):Prop:=
 ∀ (ñ:ζ)(s:Ê)(σ:St)(H:Hp)(x y:V)(v u:Value)(Q:VK),Inv X ñ σ H s->RelV x v->RelV y u->r x y H Q->
  wpAny (model X.prog X.w) X.A (f v u) (EP X ñ σ Q) X.xe s
def UnR (X:Cx)(f:Value->Sem Value)(r:V->Hp->VK->Prop):Prop:=
 ∀ (ñ:ζ)(s:Ê)(σ:St)(H:Hp)(x:V)(v:Value)(Q:VK),Inv X ñ σ H s->RelV x v->r x H Q->
  wpAny (model X.prog X.w) X.A (f v) (EP X ñ σ Q) X.xe s
def IL (X:Cx)(f:Value)(r:List V->Hp->VK->Prop):Prop:=
 ∀ (ñ:ζ)(s:Ê)(σ:St)(H:Hp)(xs:π)(us:θ)(Q:VK),Inv X ñ σ H s->Vals xs us->r xs H Q->
  wpAny (model X.prog X.w) X.A (call f us) (EP X ñ σ Q) X.xe s
noncomputable def TB (r:R2)(ta tb:TE):TE:=λσ H Q=>ta σ H λx H1=>tb σ H1 λy H2=>r x y H2 Q
noncomputable def tUn (r:V->Hp->VK->Prop)(ta:TE):TE:=λσ H Q=>ta σ H λx H1=>r x H1 Q
noncomputable def rI (C:Int->Int->Prop)(g:Int->Int->V):R2:=λx y H Q=>∃ i j,x=.int i/\y=.int j/\C i j/\Q (g i j) H
noncomputable def SK (g:Int->Int->V):R2:=λx y H Q=>∃ i j,x=.int i/\y=.int j/\Q (g i j) H
def rU (g:Int->V):V->Hp->VK->Prop:=λx H Q=>∃ i,x=.int i/\Q (g i) H
section
variable {tb:TE}
theorem Wf (ha:PE X a ta)(hb:PE X b tb){R:V->V->Ø}(I:Inv X ñ σ H s)(h:ta σ H λx H1=>tb σ H1 λy H2=>R x y H2){f:Value->Value->Sem Value}(hf:∀ v u s2 x y H2,Inv X ñ σ H2 s2->RelV x v->RelV y u->R x y H2->wpAny X.Ę X.A (f v u) Q X.xe s2):
  wpAny X.Ę X.A (eval a X.env) (λv s₁=>wpAny X.Ę X.A (eval b X.env) (λu s₂=>wpAny X.Ę X.A (f v u) Q X.xe s₂) X.xe s₁) X.xe s:=by
 refine Iz (ha _ s σ H _ I h) λv s1 gR=>?_;obtain⟨x,H1,I1,r1,q1⟩:=gR;refine Iz (hb _ s1 σ H1 _ I1 q1) λu s2 gR=>?_;obtain⟨y,H2,I2,r2,q2⟩:=gR;exact hf v u s2 x y H2 I2 r1 r2 q2
theorem bM (ho:JT X (binaryOp op) r)(ha:PE X a ta)(hb:PE X b tb):PE X (.BinOp a op b pos) (TB r ta tb):=by intro ñ s σ H Q I h;exact wpAny_BinOp (Wf ha hb I h λv u s2 x y H2 I2 rx ry q=>ho _ s2 σ H2 x y v u Q I2 rx ry q)
theorem XA (ho:UnR X (unaryOp op) r)(ha:PE X a ta):PE X (.UnaryOp op a pos) (tUn r ta):=by intro ñ s σ H Q I h;exact UnaryOp_ (Iz (ha _ s σ H _ I h) λv s1 gR=>(by obtain⟨x,H1,I1,r1,q1⟩:=gR;exact ho _ s1 σ H1 x v Q I1 r1 q1))
theorem ZK {g:Int->Int->Int}(rule:∀ (i j:Int)(t u:Tok)(s:Ê)(Q:ρ)(E:ρ),C i j->Q (.int (g i j) s.toks) { s with toks:=s.toks+1 }->wpAny X.Ę X.A (f (.int i t) (.int j u)) Q E s):
  JT X f (rI C λi j=>.int (g i j)):=by
 intro ñ s σ H x y v u Q I rx ry h;obtain⟨i,j,rfl,rfl,hc,q⟩:=h;obtain⟨t,rfl⟩:=rx;obtain⟨t',rfl⟩:=ry;exact rule i j t t' s _ _ hc ⟨.int _,H,I.tok _,⟨_,rfl⟩,q⟩
theorem XE {g:Int->Int->Int}(rule:∀ (i j:Int)(t u:Tok)(s:Ê)(Q:ρ)(E:ρ),Q (.int (g i j) s.toks) { s with toks:=s.toks+1 }->wpAny X.Ę X.A (f (.int i t) (.int j u)) Q E s):
  JT X f (SK λi j=>.int (g i j)):=by
 intro ñ s σ H x y v u Q I rx ry h;obtain⟨i,j,rfl,rfl,q⟩:=h;obtain⟨t,rfl⟩:=rx;obtain⟨t',rfl⟩:=ry;exact rule i j t t' s _ _ ⟨.int _,H,I.tok _,⟨_,rfl⟩,q⟩
theorem CZ {g:Int->Int->Bool}(rule:∀ (i j:Int)(t u:Tok)(s:Ê)(Q:ρ)(E:ρ),Q (.bool (g i j)) s->wpAny X.Ę X.A (f (.int i t) (.int j u)) Q E s):
  JT X f (SK λi j=>.bl (g i j)):=by
 intro ñ s σ H x y v u Q I rx ry h;obtain⟨i,j,rfl,rfl,q⟩:=h;obtain⟨t,rfl⟩:=rx;obtain⟨t',rfl⟩:=ry;exact rule i j t t' s _ _ ⟨.bl _,H,I,rfl,q⟩
def a3s (i j:Int):Prop:=0<j/\j<1073741824
def a3r (i j:Int):Prop:=0<=j/\j<=1000000/\i.natAbs<2 ^ 64
def R9 (i j:Int):Prop:=(-(2 ^ 64)<i/\i<2 ^ 64)\/(-(2 ^ 64)<j/\j<2 ^ 64)
theorem R9.ok (h:R9 i j):IntMulOk i j:=by
 rcases h with⟨h1,h2⟩|⟨h1,h2⟩
 ·exact .of_left (intBits_le_64 h1 h2)
 ·exact .of_right (intBits_le_64 h1 h2)
theorem lf:JT X (binaryOp .Add) (SK λi j=>.int (i+j)):=XE λ_ _ _ _ _ _ _ q=>add_int q
theorem tj:JT X (binaryOp .Sub) (SK λi j=>.int (i - j)):=XE λ_ _ _ _ _ _ _ q=>sub_int q
theorem cC:JT X (binaryOp .Mult) (rI R9 λi j=>.int (i * j)):=ZK λ_ _ _ _ _ _ _ hc q=>mul_int q hc.ok
theorem eQ:JT X (binaryOp .FloorDiv) (rI a3s λi j=>.int (i / j)):=ZK λi j _ _ _ _ _ hc q=>by have h1:=hc.1;have h2:=hc.2;exact floordiv_int (by omega) (by rw[Int.fdiv_eq_ediv_of_nonneg i<|by omega];exact q) (.inl<|PyProof.noPylong_small (by omega))
theorem bK:JT X (binaryOp .Mod) (rI (λ_ j=>0<j) λi j=>.int (i % j)):=ZK λi j _ _ _ _ _ hc q=>by exact mod_int' (by omega) (by rw[EH i<|by omega];exact q)
theorem V9:JT X (binaryOp .Pow) (rI a3r λi j=>.int (i ^ j.toNat)):=ZK λ_ _ _ _ _ _ _ hc q=>pow_int_small hc.1 hc.2.1 hc.2.2 q
theorem unI {g:Int->Int}(rule:∀ (i:Int)(t:Tok)(s:Ê)(Q:ρ)(E:ρ),Q (.int (g i) s.toks) { s with toks:=s.toks+1 }->wpAny X.Ę X.A (f (.int i t)) Q E s):
  UnR X f (rU λi=>.int (g i)):=by
 intro ñ s σ H x v Q I rx h;obtain⟨i,rfl,q⟩:=h;obtain⟨t,rfl⟩:=rx;exact rule i t s _ _ ⟨.int _,H,I.tok _,⟨_,rfl⟩,q⟩
theorem UD:UnR X (unaryOp .USub) (rU λi=>.int (-i)):=unI λ_ _ _ _ _ q=>neg_int q
end
noncomputable def UQ:V->V->Bool
 | .non,.non=>true|.non,.int _=>true|.int _,.non=>true|.non,.bl _=>true|.bl _,.non=>true|.non,.str _=>true|.str _,.non=>true
 | .int _,.int _=>true|.bl _,.bl _=>true|.str _,.str _=>true|.byt _,.byt _=>true
 | .int _,.str _=>true|.str _,.int _=>true|.bl _,.str _=>true|.str _,.bl _=>true
 | _,_=>false
noncomputable def rEq:R2:=λx y H Q=>UQ x y=true/\Q (.bl (decide (x=y))) H
noncomputable def rNe:R2:=λx y H Q=>UQ x y=true/\Q (.bl (!decide (x=y))) H
theorem yU:decide (V.int i=V.int j)=(i==j):=by rw[Fe];simp
theorem BU:decide (V.bl i=V.bl j)=(i==j):=by rw[Fe];simp
theorem yT:decide (V.str i=V.str j)=(i==j):=by rw[Fe];simp
theorem yV:decide (V.byt i=V.byt j)=(i.toList==j.toList):=by
 rw[Fe]
 cases i
 cases j;simp
section
variable {X:Cx}{ta tb tc:TE}
theorem aK (I:Inv X ñ σ H s)(q:Q (.bl k) H)(e:k=k'):EP X ñ σ Q (.bool k') s:=by subst e;exact⟨.bl k,H,I,rfl,q⟩
theorem bf:JT X (compareOp .Eq) rEq:=by
 intro ñ s σ H x y v u Q I rx ry h;obtain⟨hs,q⟩:=h
 cases x with
 | non=>
  cases rx
  cases y with
  | non=>cases ry;exact PySem.EqNone.eq_none_none (aK I q<|by simp)
  | bl j=>cases ry;exact PySem.EqNone.eq_none_bool (aK I q<|by simp)
  | int j=>obtain⟨t',rfl⟩:=ry;exact PySem.EqNone.eq_none_int (aK I q<|by simp)
  | str j=>obtain⟨t',rfl⟩:=ry;exact PySem.EqNone.eq_none_str (aK I q<|by simp)
  | _=>exact absurd (show false=true from hs) Ef
 | bl i=>
  cases rx
  cases y with
  | non=>cases ry;exact PySem.EqNone.eq_bool_none (aK I q<|by simp)
  | bl j=>cases ry;exact eq_bool (aK I q BU)
  | str j=>obtain⟨t',rfl⟩:=ry;exact PySem.EqMixed.eq_bool_str (aK I q<|by simp)
  | _=>exact absurd (show false=true from hs) Ef
 | int i=>
  obtain⟨t,rfl⟩:=rx
  cases y with
  | non=>cases ry;exact PySem.EqNone.eq_int_none (aK I q<|by simp)
  | int j=>obtain⟨t',rfl⟩:=ry;exact eq_int (aK I q yU)
  | str j=>obtain⟨t',rfl⟩:=ry;exact PySem.EqMixed.eq_int_str (aK I q<|by simp)
  | _=>exact absurd (show false=true from hs) Ef
 | str i=>
  obtain⟨t,rfl⟩:=rx
  cases y with
  | non=>cases ry;exact PySem.EqNone.eq_str_none (aK I q<|by simp)
  | bl j=>cases ry;exact PySem.EqMixed.eq_str_bool (aK I q<|by simp)
  | int j=>obtain⟨t',rfl⟩:=ry;exact PySem.EqMixed.eq_str_int (aK I q<|by simp)
  | str j=>obtain⟨t',rfl⟩:=ry;exact eq_str (aK I q yT)
  | _=>exact absurd (show false=true from hs) Ef
 | byt i=>
  obtain⟨t,rfl⟩:=rx
  cases y with
  | byt j=>obtain⟨t',rfl⟩:=ry;exact W.eq_bytes (aK I q yV)
  | _=>exact absurd (show false=true from hs) Ef
 | _=>cases y <;> exact absurd (show false=true from hs) Ef
theorem oh:JT X (compareOp .NotEq) rNe:=by
 intro ñ s σ H x y v u Q I rx ry h;obtain⟨hs,q⟩:=h
 cases x with
 | non=>
  cases rx
  cases y with
  | non=>cases ry;exact PySem.EqNone.ne_none_none (aK I q<|by simp)
  | bl j=>cases ry;exact PySem.EqNone.ne_none_bool (aK I q<|by simp)
  | int j=>obtain⟨t',rfl⟩:=ry;exact PySem.EqNone.ne_none_int (aK I q<|by simp)
  | str j=>obtain⟨t',rfl⟩:=ry;exact PySem.EqNone.ne_none_str (aK I q<|by simp)
  | _=>exact absurd (show false=true from hs) Ef
 | bl i=>
  cases rx
  cases y with
  | non=>cases ry;exact PySem.EqNone.ne_bool_none (aK I q<|by simp)
  | bl j=>cases ry;exact ne_bool (aK I q<|congrArg not BU)
  | str j=>obtain⟨t',rfl⟩:=ry;exact PySem.EqMixed.ne_bool_str (aK I q<|by simp)
  | _=>exact absurd (show false=true from hs) Ef
 | int i=>
  obtain⟨t,rfl⟩:=rx
  cases y with
  | non=>cases ry;exact PySem.EqNone.ne_int_none (aK I q<|by simp)
  | int j=>obtain⟨t',rfl⟩:=ry;exact ne_int (aK I q<|congrArg not yU)
  | str j=>obtain⟨t',rfl⟩:=ry;exact PySem.EqMixed.ne_int_str (aK I q<|by simp)
  | _=>exact absurd (show false=true from hs) Ef
 | str i=>
  obtain⟨t,rfl⟩:=rx
  cases y with
  | non=>cases ry;exact PySem.EqNone.ne_str_none (aK I q<|by simp)
  | bl j=>cases ry;exact PySem.EqMixed.ne_str_bool (aK I q<|by simp)
  | int j=>obtain⟨t',rfl⟩:=ry;exact PySem.EqMixed.ne_str_int (aK I q<|by simp)
  | str j=>obtain⟨t',rfl⟩:=ry;exact ne_str (aK I q<|congrArg not yT)
  | _=>exact absurd (show false=true from hs) Ef
 | byt i=>
  obtain⟨t,rfl⟩:=rx
  cases y with
  | byt j=>obtain⟨t',rfl⟩:=ry;exact W.ne_bytes (aK I q<|congrArg not yV)
  | _=>exact absurd (show false=true from hs) Ef
 | _=>cases y <;> exact absurd (show false=true from hs) Ef
theorem lQ:JT X (compareOp .Lt) (SK λi j=>.bl (decide (i<j))):=CZ λ_ _ _ _ _ _ _ q=>lt_int q
theorem qB:JT X (compareOp .LtE) (SK λi j=>.bl (decide (i<=j))):=CZ λ_ _ _ _ _ _ _ q=>le_int q
theorem qF:JT X (compareOp .Gt) (SK λi j=>.bl (decide (j<i))):=CZ λ_ _ _ _ _ _ _ q=>gt_int q
theorem Bh:JT X (compareOp .GtE) (SK λi j=>.bl (decide (j<=i))):=CZ λ_ _ _ _ _ _ _ q=>ge_int q
theorem zB:JT X (compareOp .In) (λx y H Q=>∃ i j,x=.str i/\y=.str j/\Q (.bl (!(Builtin.Str.occurrences j i 0 j.length 1).isEmpty)) H):=by intro ñ s σ H x y v u Q I rx ry h;obtain⟨i,j,rfl,rfl,q⟩:=h;obtain⟨t,rfl⟩:=rx;obtain⟨t',rfl⟩:=ry;exact in_str (aK I q rfl)
theorem l9:JT X (compareOp .Is) (λx y H Q=>y=.non/\Q (.bl (decide (x=.non))) H):=by
 intro ñ s σ H x y v u Q I rx ry h;obtain⟨rfl,q⟩:=h
 cases ry;refine is_none_gen (aK I q ?_)
 cases x <;> first
  | (cases rx;rfl)
  | (obtain⟨t,rfl⟩:=rx;rfl)
theorem gp:JT X (compareOp .IsNot) (λx y H Q=>y=.non/\Q (.bl (!decide (x=.non))) H):=by
 intro ñ s σ H x y v u Q I rx ry h;obtain⟨rfl,q⟩:=h
 cases ry;refine isnot_none_gen (aK I q ?_)
 cases x <;> first
  | (cases rx;rfl)
  | (obtain⟨t,rfl⟩:=rx;rfl)
theorem JT.or (h:JT X f r)(h':JT X f r'):JT X f (λx y H Q=>r x y H Q\/r' x y H Q):=by
 intro ñ s σ H x y v u Q I rx ry q;rcases q with q|q
 ·exact h _ s σ H x y v u Q I rx ry q
 ·exact h' _ s σ H x y v u Q I rx ry q
theorem tU (b:Expr)(h:autoParam (op≠.In) ĩ)(h2:autoParam (op≠.NotIn) ĩ):behindInMarks op b=false:=by
 have e1:(op==CmpOp.In)=false:=by cases op <;> first|rfl|exact absurd rfl h
 have e2:(op==CmpOp.NotIn)=false:=by cases op <;> first|rfl|exact absurd rfl h2
 cases b <;> simp[behindInMarks,e1,e2]
theorem yx (ho:JT X (compareOp op) r)(ha:PE X a ta)(hb:PE X b tb)(hm:behindInMarks op b=false):PE X (.Compare a [op] [b] pos) (TB r ta tb):=by intro ñ s σ H Q I h;exact wpAny_Compare1 (Wf ha hb I h λv u s2 x y H2 I2 rx ry q=>ho _ s2 σ H2 x y v u Q I2 rx ry q) hm
noncomputable def AB (t:TE):TT:=λσ H Q=>t σ H λx H'=>∃ k,x=.bl k/\Q k H'
theorem yu (ho:JT X (compareOp op) r)(ha:PE X a ta)(hb:PE X b tb)(hm:behindInMarks op b=false):PT X (.Compare a [op] [b] pos) (AB (TB r ta tb)):=by
 intro ñ s σ H Q I h;refine wpAny_isTrue_Compare1 (Iz (ha _ s σ H _ I h) λv s1 ⟨x,H1,I1,r1,q1⟩=>Iz (hb _ s1 σ H1 _ I1 q1) λu s2 ⟨y,H2,I2,r2,q2⟩=>
  Iz (ho _ s2 σ H2 x y v u _ I2 r1 r2 q2) λc s3 ⟨z,H3,I3,r3,k,e,q3⟩=>?_) hm
 subst e
 cases r3;exact FG ⟨H3,I3,q3⟩
noncomputable def AF (r r':R2)(ta tb tc:TE):TE:=λσ H Q=>ta σ H λx H1=>tb σ H1 λy H2=>r x y H2 λz H3=>∃ k,z=.bl k/\
 (if k=true then tc σ H3 λw' H4=>r' y w' H4 Q else Q (.bl false) H3)
theorem nY (ho:JT X (compareOp op) r)(OS:JT X (compareOp op') r')(ha:PE X a ta)(hb:PE X b tb)(hc:PE X c tc)(hm:lastMarks [op,op'] [b,c]=false:=by with_unfolding_all rfl):PE X (.Compare a [op,op'] [b,c] pos) (AF r r' ta tb tc):=by
 intro ñ s σ H Q I h;refine Compare_chain (Iz (ha _ s σ H _ I h) λv s1 ⟨x,H1,I1,r1,q1⟩=>chain_link (Iz (hb _ s1 σ H1 _ I1 q1) λu s2 ⟨y,H2,I2,r2,q2⟩=>
  Iz (ho _ s2 σ H2 x y v u _ I2 r1 r2 q2) λd s3 ⟨z,H3,I3,r3,k,e,q3⟩=>?_)) hm
 subst e
 cases r3;refine FG ?_
 cases k with
 | false=>exact ite_ff ⟨.bl false,H3,I3,rfl,q3⟩
 | true=>exact ite_tt (chain_last<|Iz (hc _ s3 σ H3 _ I3 q3) λw' s4 gR=>(by obtain⟨z',H4,I4,r4,q4⟩:=gR;exact OS _ s4 σ H4 y z' u w' Q I4 r2 r4 q4))
theorem oH:(sizeLine:Nat)<2 ^ 63:=by rw[sizeLine_eq];decide
theorem gG (r:Vals [x] us):∃ u,us=[u]/\RelV x u:=by
 cases r with
 | cons r1 r2=>cases r2;exact⟨_,rfl,r1⟩
theorem Aw (r:Vals [x,y] us):∃ u w',us=[u,w']/\RelV x u/\RelV y w':=by
 cases r with
 | cons r1 r2=>
  cases r2 with
  | cons r3 r4=>cases r4;exact⟨_,_,rfl,r1,r3⟩
end
structure Q9 (h:Heap) (x dx C:Addr) (mA:Ω):Prop where
 obj:h.get? x=some (W.instObj C dx)
 ns:h.Ns1 dx mA
 ne:dx≠x
theorem zN {h:Heap}(n:h.Ns1 dx mA):∃ od,h.get? dx=some od/\∀ name,W.lookIn name od=some (mA name):=by
 obtain⟨o,es,ep,ho,hd,hk,_,hm⟩:=n;refine⟨o,ho,λname=>?_⟩;have e:=hm name;unfold nsFind findBy at e;rw[<- Array.find?_toList]at e;unfold W.lookIn;rw[hd];dsimp only;split
 ·rename_i y q;rw[q]at e;exact congrArg _ e
 ·rename_i q;rw[q]at e;have a:es.toList.any (·.refKey)=false:=by rw[List.any_eq_false];intro y hy;obtain⟨z,t,VO⟩:=hk y<|Array.mem_toList_iff.mp hy;simp[DictEntry.refKey,VO]
  have a':¬ es.toList.any (·.refKey)=true:=by rw[a];exact Ef
  rw[if_neg a'];exact congrArg some e
theorem Q9.look (I:Q9 h x dx C mA):∃ od,W.InstAt h x (W.instObj C dx) C (some od)/\∀ name,W.lookIn name od=some (mA name):=
 let ⟨od,ho,hl⟩:=zN I.ns
 ⟨od,⟨I.obj,rfl,rfl,ho⟩,hl⟩
section
variable {K:Ψ}
theorem Di (X:K.In s.heap)(I:Q9 s.heap x dx C mA)(hg:W.plainGet K C name=true)(hh:W.hasDictIn K C=true)(ha:W.findIn K (.ref C) name=some none)(hv:mA name=some v)(hv':W.handedIn v=true)(h:Q v { s with toks:=s.toks+1 }):
  wpAny (model prog w) A (getAttr (.ref x) name expr) Q E s:=by
 obtain⟨od,J,hl⟩:=I.look;exact W.get_value X J (W.plainGet_of hg).1 (W.findObj_own hh ha rfl<|by rw[hl,hv]) hv' h
theorem BJ (X:K.In s.heap)(I:Q9 s.heap x dx C mA)(hg:W.plainGet K C name=true)(hf:W.findIn K (.ref C) name=some (some (.ref f)))(ht:W.isFn K (.ref f)=true)(hv:mA name=none)(h:Q (.ref f,[.ref x]) s):
  wpAny (model prog w) A (getMethod (.ref x) name pl) Q E s:=by
 obtain⟨od,J,hl⟩:=I.look;exact W.method_fn X J (W.plainGet_of hg).1 (W.plainGet_of hg).2 hf (FK.mp ht) (by show (W.lookIn _ od).map _=some false;rw[hl,hv];rfl) h
theorem Cw (X:K.In s.heap)(I:Q9 s.heap x dx C mA)(hs:W.findIn K (.ref C) "__setattr__"=some (some (.builtin "object.__setattr__")))(hp:W.plainOver K C=true)(ht:W.takerIn K C name=some none)(hh:W.hasDictIn K C=true)(hw:PySem.Within mA ns)(hsz:ns.length<=sizeLine)(h:∀ h',Q9 h' x dx C (λy=>if y=name then some v else mA y)->Heap.SameBut dx s.heap h'->Q () { s with heap:=h',toks:=s.toks+2 }):
  wpAny (model prog w) A (setAttr (.ref x) name v) Q E s:=by
 obtain⟨od,J,hl⟩:=I.look;refine W.set_plain X J hs (W.osa_open X J hp ht λb=>?_);obtain⟨cd,hc,Oi⟩:=W.any_some hh;have hx:=I.obj;refine DK<|DW (DK<|DK (wpAny_loadPart hx<|DK (W.Looks.here (W.looks_clsIn X hc) ?_)));rw[Oi];refine DW<|DK (DW (DK ?_));refine wpAny_nsSet1 I.ns λh' hn2 OR=>?_;obtain⟨oD,esD,epD,hoD,hdD,hcD⟩:=hn2.count<|PySem.Within.cons _ v hw;refine DK (wpAny_lookBehind hoD (by rw[hdD];exact pastItsLine_dict<|Ei hcD (by rw[Eu];omega)) ?_);exact DW (h _ ⟨(OR.2 _<|Ne.symm I.ne).trans I.obj,hn2,I.ne⟩ OR)
theorem Bx (X:K.In s.heap)(hm:W.makesIn K C=true)(hi:W.findIn K (.ref C) "__init__"=some (some (.ref f)))(hf:W.typeIn K (.ref f)=some (.type "function"))(h:codeAny (model prog w) (A.under (.builtin "type.__call__" ⟨.ref C::vs,kw⟩)) (.call (.ref f) ⟨.ref (s.heap.objs.size+1)::vs,kw⟩) (W.InitBack (s.heap.objs.size+1) R)
   { s with heap:=(s.heap.push W.emptyDict).push (W.instObj C s.heap.objs.size) }):
  codeAny (model prog w) A (.call (.ref C) ⟨vs,kw⟩) R s:=by
 obtain⟨hh,g,d,t,os⟩:=s;exact W.make_core (W.makes_of X hm) (W.looks_findIn X hi) (λself=>W.bind_fn X _ hf) (.inl rfl) h
end
noncomputable def iR (f:Str)(v:V):List (Str×V)->Í
 | []=>[(f,v)]
 | (g,x)::r=>if g=f then (g,v)::r else (g,x)::iR f v r
theorem lR (f g:Str)(v:V):∀ fs:Í,(iR f v fs).lookup g=if g=f then some v else fs.lookup g
 | []=>by
  show List.lookup g [(f,v)]=_;by_cases h:g=f
  ·have hb:(g==f)=true:=FK.mpr h;simp only[List.lookup,hb,if_pos h]
  ·have hb:(g==f)=false:=Fw.mpr h;simp only[List.lookup,hb,if_neg h]
 | (k,x)::r=>by
  have ih:=lR f g v r;rw[show iR f v ((k,x)::r)=(if k=f then (k,v)::r else (k,x)::iR f v r) from rfl];by_cases hk:k=f
  ·rw[if_pos hk];by_cases h:g=k
   ·have hb:(g==k)=true:=FK.mpr h;simp only[List.lookup,hb,if_pos<|h.trans hk]
   ·have hb:(g==k)=false:=Fw.mpr h;simp only[List.lookup,hb,if_neg (λe:g=f=>h<|e.trans hk.symm)]
  ·rw[if_neg hk];by_cases h:g=k
   ·have hb:(g==k)=true:=FK.mpr h;simp only[List.lookup,hb,if_neg (λe:g=f=>hk<|h.symm.trans e)]
   ·have hb:(g==k)=false:=Fw.mpr h;simp only[List.lookup,hb];exact ih
theorem lx (f:Str)(v:V):∀ fs:Í,f∈(iR f v fs).map (·.1)/\∀ g,g∈fs.map (·.1)->g∈(iR f v fs).map (·.1)
 | []=>⟨by simp[iR],λg h=>by simp at h⟩
 | (k,x)::r=>by
  obtain⟨i1,i2⟩:=lx f v r;rw[show iR f v ((k,x)::r)=(if k=f then (k,v)::r else (k,x)::iR f v r) from rfl];by_cases hk:k=f
  ·rw[if_pos hk];subst hk;exact⟨by simp,λg h=>by simpa using h⟩
  ·rw[if_neg hk];refine⟨?_,λg h=>?_⟩
   ·rw[DX];exact E6 _ i1
   ·rw[DX]at h ⊢;rcases E3.mp h with e|e
    ·exact E3.mpr (.inl e)
    ·exact E6 _ (i2 g e)
theorem lS (f:Str)(v:V):∀ fs:Í,(iR f v fs).length<=fs.length+1
 | []=>by simp[iR]
 | (k,x)::r=>by
  have ih:=lS f v r;rw[show iR f v ((k,x)::r)=(if k=f then (k,v)::r else (k,x)::iR f v r) from rfl];by_cases hk:k=f
  ·rw[if_pos hk,Eu,Eu];omega
  ·rw[if_neg hk,Eu,Eu];omega
theorem Lr.some_of (r:Lr (some v) o):∃ u,o=some u/\RelV v u:=by
 cases o with
 | none=>exact (r).elim
 | some u=>exact⟨u,rfl,r⟩
theorem Lr.none_of (r:Lr none o):o=none:=by
 cases o with
 | none=>rfl
 | some u=>exact (r).elim
theorem zZ (r:RelV v u):W.handedIn u=true:=by
 cases v with
 | non=>cases (r);rfl
 | bl b=>cases (r);rfl
 | int i=>obtain⟨t,e⟩:=r;cases e;rfl
 | str x=>obtain⟨t,e⟩:=r;cases e;rfl
 | byt b=>obtain⟨t,e⟩:=r;cases e;rfl
 | flt b=>obtain⟨t,e⟩:=r;cases e;rfl
 | ref a=>cases (r);rfl
 | ty n=>cases (r);rfl
theorem mW (Iq:Mf P w H h)(e:H a=some (.ins C dx fs)):∃ mA,Q9 h a dx C mA/\(∀ f,Lr (fs.lookup f) (mA f))/\PySem.Within mA (fs.map (·.1))/\fs.length<=1000/\H dx=some (.own a):=by
 obtain⟨d,z,ne,ob,mA,n,r,q⟩:=(Iq a _ e)
 exact⟨mA,⟨ob,n,ne⟩,r,q,z,d⟩
structure LF (K:Ψ) (C:Addr):Prop where
 pg:W.plainGet K C Str.empty=true
 hd:W.hasDictIn K C=true
 po:W.plainOver K C=true
 sa:W.findIn K (.ref C) "__setattr__"=some (some (.builtin "object.__setattr__"))
theorem LF.get {K:Ψ}(c:LF K C)(f:Str):W.plainGet K C f=true:=c.pg
def IE (K:Ψ)(C:Addr)(f:Str):Prop:=W.findIn K (.ref C) f=some none
theorem IE.X9 {K:Ψ}(n:IE K C f):W.takerIn K C f=some none:=by unfold W.takerIn;rw[n];rfl
structure yb (K:Ψ) (C:Addr) (m:Str) (f:Addr):Prop where
 at_:W.findIn K (.ref C) m=some (some (.ref f))
 fn:W.isFn K (.ref f)=true
 kp:W.keepIn K (.ref f)=true
theorem xK (I:Inv X ñ σ H s)(e:H a=some (.ins C dx fs))(c:LF X.K C)(n:IE X.K C f)(l:fs.lookup f=some v)(h:∀ u s',Inv X ñ σ H s'->RelV v u->Q u s'):wpAny X.Ę A (getAttr (.ref a) f b) Q E s:=by obtain⟨mA,O,r,_,_,_⟩:=mW I.Iq e;obtain⟨u,hu,ru⟩:=Lr.some_of (by rw[<- l];exact r f);exact Di I.N0 O (c.get f) c.hd n hu (zZ ru) (h u _ (I.tok _) ru)
theorem jw (I:Inv X ñ σ H s)(e:H a=some (.ins C dx fs))(c:LF X.K C)(k:yb X.K C m g)(l:fs.lookup m=none)(h:Q (.ref g,[.ref a]) s):wpAny X.Ę A (getMethod (.ref a) m pl) Q E s:=by obtain⟨mA,O,r,_,_,_⟩:=mW I.Iq e;have hn:=Lr.none_of (by rw[<- l];exact r m);exact BJ I.N0 O (c.get m) k.at_ k.fn hn h
theorem wS (I:Inv X ñ σ H s)(e:H a=some (.ins C dx fs))(c:LF X.K C)(n:IE X.K C f)(hl:fs.length<1000)(ry:RelV y u)(h:∀ s',Inv X ñ σ (upd H a (.ins C dx (iR f y fs))) s'->Q () s'):wpAny X.Ę A (setAttr (.ref a) f u) Q E s:=by
 obtain⟨mA,O,r,wi,_,ho⟩:=mW I.Iq e;have hz:(fs.map (·.1)).length<=sizeLine:=by rw[DH,sizeLine_eq];omega
 refine Cw I.N0 O c.sa c.po n.X9 c.hd wi hz λh' O' sb=>h _ ?_;have hd:∃ o,h'.get? dx=some o:=let ⟨o,_,_,e',_⟩:=O'.ns;⟨o,e'⟩;refine I.write (by rw[e];exact FN) (.inr ho) (λb q hb z=>(sb.2 b hb).trans z) hd ?_;refine⟨by rw[ab O.ne];exact ho,?_,O.ne,O'.obj,_,O'.ns,λg=>?_,λg hg=>?_⟩
 ·have:=lS f y fs;omega
 ·rw[lR];by_cases q:g=f
  ·rw[if_pos q,if_pos q];exact ry
  ·rw[if_neg q,if_neg q];exact r g
 ·by_cases q:g=f
  ·rw[q];exact (lx f y fs).1
  ·refine (lx f y fs).2 g (wi g λz=>hg ?_);show (if g=f then some u else mA g)=none;rw[if_neg q];exact z
theorem Inv.made (I:Inv X ñ σ H s):Inv X ñ σ (upd (upd H s.heap.objs.size (.own (s.heap.objs.size+1))) (s.heap.objs.size+1) (.ins C s.heap.objs.size []))
  { s with heap:=(s.heap.push W.emptyDict).push (W.instObj C s.heap.objs.size) }:=by
 have e1:(s.heap.push _).get? s.heap.objs.size=some W.emptyDict:=Eb _ rfl;have e2:((s.heap.push W.emptyDict).push<|W.instObj C s.heap.objs.size).get? (s.heap.objs.size+1)=some (W.instObj C s.heap.objs.size):=by have:=Eb (s.heap.push W.emptyDict) (o:=W.instObj C s.heap.objs.size) rfl;rwa [GG]at this
 have e3:(s.heap.push W.emptyDict).Ns _ (λ_=>none):=⟨W.emptyDict,#[],_,e1,rfl,λe he=>absurd he<|by simp,λ_=>rfl⟩
 have I1:=I.laid (o:=.own<|s.heap.objs.size+1) (t':=s.toks) (λb u q=>DU _ q) (DV _) ⟨_,e1⟩;refine I1.laid (λb u q=>DU _ q) (Nat.le_of_eq<|GG _ _) ?_;have ne:s.heap.objs.size≠s.heap.objs.size+1:=EL<|EX _;refine⟨by rw[ab ne,ag],EE _,ne,e2,λ_=>none,(Heap.Ns1.of_empty e3).at λo q=>DU _ q,λ_=>FN,λy hy=>absurd rfl hy⟩
theorem Du (hb:attributeBase e f env (eval e env)=eval e env)(h:wpAny (model prog w) A (eval e env) (λo s₁=>wpAny (model prog w) A (getAttr o f true) Q E s₁) E s):wpAny (model prog w) A (eval (.Attribute e f pos) env) Q E s:=
 Attribute_any_ h (by rw[arm_eval_Attribute,hb])
noncomputable def Xe (K:Ψ)(ta:TE)(f:Str):TE:=λσ H Q=>ta σ H λx H1=>∃ a C dx fs v,x=.ref a/\H1 a=some (.ins C dx fs)/\LF K C/\IE K C f/\fs.lookup f=some v/\Q v H1
noncomputable def a07 (K:Ψ)(ta tv:TE)(f:Str):TS:=λD σ H=>tv σ H λy H1=>ta σ H1 λx H2=>∃ a C dx fs,x=.ref a/\H2 a=some (.ins C dx fs)/\LF K C/\IE K C f/\fs.length<1000/\
 D.nx σ (upd H2 a (.ins C dx (iR f y fs)))
theorem B9 (he:PE X e ta)(hb:attributeBase e f X.env (eval e X.env)=eval e X.env):PE X (.Attribute e f pos) (Xe X.K ta f):=by intro ñ s σ H Q I h;refine Du hb (Iz (he _ s σ H _ I h) λu s1 gR=>?_);obtain⟨x,H1,I1,rx,a,C,dx,fs,v,ex,ea,c,n,l,q⟩:=gR;subst ex;obtain rfl:u=Value.ref a:=rx;exact xK I1 ea c n l λu' s2 I2 ru=>⟨v,H1,I2,ru,q⟩
theorem gh (ha:PE X o ta)(hv:PE X value tv)(hs:swapsWith value (some (.Attribute o f pos')) pos.line X.env=pure false):PS X (.Assign [.Attribute o f pos'] value pos) (a07 X.K ta tv f):=by intro ñ s σ H D I h;refine plainObj_wpAny_Assign_Attribute (Iz (hv _ s σ H _ I h) λu s1 ⟨y,H1,I1,ry,q⟩=>Iz (ha _ s1 σ H1 _ I1 q) λov s2 gR=>?_) hs;obtain⟨x,H2,I2,rx,a,C,dx,fs,ex,ea,c,n,l,q2⟩:=gR;subst ex;obtain rfl:ov=Value.ref a:=rx;exact wS I2 ea c n l ry λs3 I3=>⟨σ,_,I3,q2⟩
section
variable {H:Hp}
inductive kB (K:Ψ) (H:Hp):V->Value->Prop where
 |non:kB K H .non (.type "NoneType")
 |bl (x:Bool):kB K H (.bl x) (.type "bool")
 |int (i:Int):kB K H (.int i) (.type "int")
 |str (x:Str):kB K H (.str x) (.type "str")
 |flt (x:UInt64):kB K H (.flt x) (.type "float")
 |lst {a:Addr}{xs:π} (e:H a=some (.lst xs)):kB K H (.ref a) (.type "list")
 |frz {a:Addr}{o:Obj}{xs:π} (e:H a=some (.frz o (.lst xs))):kB K H (.ref a) (.type "list")
 |tup {a:Addr}{xs:π} (e:H a=some (.tup xs)):kB K H (.ref a) (.type "tuple")
 |dK {a:Addr}{ķ:ξ} (e:H a=some (.dK ķ)):kB K H (.ref a) (.type "dict")
 |dT {a:Addr}{ķ:List (List Key×V)} (e:H a=some (.dT ķ)):kB K H (.ref a) (.type "dict")
 |ins {a C dx:Addr}{fs:Í} (e:H a=some (.ins C dx fs)) (cl:LF K C) (ha:W.findIn K (.ref C) "__class__"=some (some (.builtin "object.__class__")))
   (hn:W.specialIn K (.builtin "object.__class__") "__get__"=some (some (.builtin "getset_descriptor.__get__"))) (Yd:W.takesIn K (.builtin "object.__class__")=some true)
   (hm:W.mroIn K C (.type "object")=some true):kB K H (.ref a) (.ref C)
theorem zU (I:Inv X ñ σ H s)(rx:RelV x u)(ty:kB X.K H x t)(e:W.kitOne X.K t c=some b)(h:∀ tk,Q (.bool b) { s with toks:=tk }):
  wpAny X.Ę A (call (.builtin "isinstance") [u,c]) Q E s:=by
 cases ty with
 | non=>cases (rx);exact Fq W.kitx_none I.N0 FN e (λz=>nomatch z) h
 | bl y=>cases (rx);exact Fq W.kitx_bool I.N0 FN e (λz=>nomatch z) h
 | int i=>obtain⟨t,q⟩:=rx;cases q;exact Fq W.kitx_int I.N0 FN e (λz=>nomatch z) h
 | str y=>obtain⟨t,q⟩:=rx;cases q;exact Fq W.kitx_str I.N0 FN e (λz=>nomatch z) h
 | flt y=>obtain⟨t,q⟩:=rx;cases q;exact Fq W.kitx_float I.N0 FN e (λz=>nomatch z) h
 | @lst a xs ea=>
  cases (rx);obtain⟨_,_,n,_,h1⟩:=(I.Iq a _ ea)
  exact Fq W.kitx_list I.N0 ⟨_,h1,rfl⟩ e (λz=>nomatch z) h
 | @frz a ob xs ea=>
  cases (rx);obtain⟨_,_,_,n,_,h1⟩:=(I.Iq a _ ea)
  exact Fq W.kitx_list I.N0 ⟨_,h1,rfl⟩ e (λz=>nomatch z) h
 | @tup a xs ea=>
  cases (rx);obtain⟨_,_,_,p⟩:=(I.Iq a _ ea)
  obtain⟨o,h1,h2,_⟩:=p;exact Fq W.kitx_tuple I.N0 ⟨o,h1,h2⟩ e (λz=>nomatch z) h
 | @dK a ķ ea=>
  cases (rx);obtain⟨_,_,vs,_,p⟩:=(I.Iq a _ ea)
  obtain⟨o,es,ep,h1,h2,_⟩:=p;exact Fq W.kitx_dict I.N0 ⟨o,h1,h2.1⟩ e (λz=>nomatch z) h
 | @dT a ķ ea=>
  cases (rx);obtain⟨_,_,xs,_,o,es,ep,h1,h2,_⟩:=(I.Iq a _ ea)
  exact Fq W.kitx_dict I.N0 ⟨o,h1,h2.1⟩ e (λz=>nomatch z) h
 | @ins a C dx fs ea cl ha hn Yd hm=>
  cases (rx);obtain⟨mA,O,_⟩:=mW I.Iq ea;obtain⟨od,J,_⟩:=O.look;exact Fq (W.kitx_own (cl.get _) cl.hd ha hn Yd hm) I.N0 J e (λz=>nomatch z) h
end
structure IA (k:Nat) (A:Ë):Prop where
 hd:A.handled=none
 dp:A.depth+3 * k+5<recursionLimit
 un:A.units+16 * k+200<cLine
theorem IA.mono (r:IA k A)(h:j<=k):IA j A:=⟨r.hd,by have:=r.dp;omega,by have:=r.un;omega⟩
theorem IA.deeper (r:IA (k+1) A)(env:Env):IA k (A.deeper env):=
 ⟨r.hd,by have:=r.dp;show A.depth+1+3 * k+5<_;omega,by have:=r.un;show A.units+3+16 * k+200<_;omega⟩
theorem xB {A:Ë}:(A.under (.builtin "type.__call__" ⟨.ref C::us,kw⟩)).depth=A.depth+1:=by first|rfl|simp
theorem xA {A:Ë}:(A.under (.builtin "type.__call__" ⟨.ref C::us,kw⟩)).units=A.units+1:=by first|rfl|simp
abbrev _root_.Û:=List (Str×Value)
theorem IA.make (r:IA (k+1) A)(C:Addr)(us:θ)(kw:Û):IA k (A.under (.builtin "type.__call__" ⟨.ref C::us,kw⟩)):=
 ⟨r.hd,by have:=r.dp;rw[xB];omega,by have:=r.un;rw[xA];omega⟩
theorem IA.depth (r:IA k A):A.depth<recursionLimit:=by have:=r.dp;omega
theorem IA.units (r:IA k A):A.units+64<cLine:=by have:=r.un;omega
noncomputable def wR:TA:=λ_ H Q=>Q [] H
noncomputable def AE (ta:TE)(tr:TA):TA:=λσ H Q=>ta σ H λx H1=>tr σ H1 λxs H2=>Q (x::xs) H2
section
variable {t:TA}
theorem D':PA X [] wR:=λ_ _ _ _ H Q I h=>Calls.spliced_nil ⟨[],H,I,.nil,h⟩
abbrev _root_.Ĕ (X:L2.Cx)(e:PySem.Expr)(es:List PySem.Expr):Prop:=starEach (e::es) X.env=(false,eval e X.env)::starEach es X.env
theorem a9 (ha:PE X e te)(hr:PA X es t)(hs:autoParam (Ĕ X e es) ŕ):PA X (e::es) (AE te t):=by intro pos ñ s σ H Q I h;rw[hs];refine Calls.spliced_cons (Iz (ha _ s σ H _ I h) λu s1 gR=>?_);obtain⟨x,H1,I1,r1,q1⟩:=gR;exact Iz (hr pos _ s1 σ H1 _ I1 q1) λus s2 gR=>by obtain⟨xs,H2,I2,r2,q2⟩:=gR;exact⟨x::xs,H2,I2,.cons r1 r2,q2⟩
noncomputable def a0Y (t:TA):TE:=λσ H Q=>t σ H λxs H1=>xs.length<=sizeLine/\∀ p,H1 p=none->Q (.ref p) (upd H1 p (.lst xs))
theorem V7 (h:PA X es t):PE X (.List es pos) (a0Y t):=by intro ñ s σ H Q I hq;refine wpAny_List_spliced<|Iz (h pos _ s σ H _ I hq) λus s1 ⟨xs,H1,I1,r,z,q⟩=>⟨by rw[<- r.length];exact z,?_⟩;have hf:=I1.Iq.fresh<|DV _;refine⟨.ref _,upd H1 _ _,I1.laid (λb u e=>DU _ e) (DV _) ?_,rfl,q _ hf⟩;exact⟨z,us,0,r,Eb _ rfl⟩
end
abbrev Sp:=List V->Hp->VK->XK->Prop
abbrev S7:=List Env->Hp->Shared->XK->ρ
structure Qb (P:É) (w:World) (K:Ψ) (mg:Ω) (base:Heap) (A:Ë) (outer:List Env) (s:Ê) (H:Hp):Prop where
 frames:A.frames=some outer
 mod:Mod K mg base
 bs:∀ b o,base.get? b=some o->s.heap.get? b=some o/\H b=none
 Sx:base.objs.size<=s.heap.objs.size
 Nv:s.heap.FunFrames base outer
 VZ:∀ b∈R0 outer,H b=none
 Iq:Mf P w H s.heap
 bare:AllBare s.gens
def CE (outer:List Env)(P:É)(w:World)(H:Hp)(s:Ê)(Q:VK)(u:Value)(s':Ê):Prop:=
 ∃ v H',s'.os=s.os/\AllBare s'.gens/\Un (R0 outer) [] H H' s.heap s'.heap/\Mf P w H' s'.heap/\RelV v u/\Q v H'
def CR (CX:S7)(outer:List Env)(P:É)(w:World)(H:Hp)(s:Ê)(Q:VK)(E:XK)(r:Result)(s':Ê):Prop:=
 match r with
 | .ok (.ret u)=>CE outer P w H s Q u s'
 | .ok _=>False
 | .error e=>CX outer H s E e s'
abbrev _root_.È:=FuncData
structure HP (P:É) (w:World) (K:Ψ) (mg:Ω) (base:Heap) (CX:S7) (k:Nat) (f:Addr) (fd:È) (ps:η) (sp:Sp):Prop where
 len:∀ vs H Q E,sp vs H Q E->vs.length=ps.length
 run:∀ (A:Ë)(outer:List Env)(s:Ê)(H:Hp)(args:Args)(us:θ)(vs:π)(Q:VK)(E:XK),IA k A->Qb P w K mg base A outer s H->BindsTo s fd args (ps.zip us)->Vals vs us->sp vs H Q E ->
  codeAny (model P w) A (.call (.ref f) args) (CR CX outer P w H s Q E) s
theorem HP.imp {K:Ψ}(F:HP P w K mg base CX k f fd ps sp)(h:∀ vs H Q E,sp' vs H Q E->sp vs H Q E):HP P w K mg base CX k f fd ps sp':=
 ⟨λvs H Q E q=>F.len vs H Q E<|h _ _ _ _ q,λA outer s H args us vs Q E hr he hb hv hs=>F.run A _ s H _ us vs Q E hr he hb hv<|h _ _ _ _ hs⟩
theorem Qb.make {K:Ψ}(e:Qb P w K mg base A outer s H)(C:Addr)(us:θ)(kw:Û):
  Qb P w K mg base (A.under (.builtin "type.__call__" ⟨.ref C::us,kw⟩)) outer s H:=⟨by first|exact e.frames|(simpa [Around.under,Code.envs,Code.isFrame,pushEnvs] using e.frames),e.mod,e.bs,e.Sx,e.Nv,e.VZ,e.Iq,e.bare⟩
theorem Inv.YX (I:Inv X ñ σ H s):Qb X.prog X.w X.K X.mg X.base X.A X.stack s H:=
 ⟨I.ok.frames,I.ok.mod,I.bs,Ei I.ok.Sx I.sz,I.stack,I.Qf,I.Iq,I.bare⟩
theorem Inv.after (I:Inv X ñ σ H s)(h:CE X.stack X.prog X.w H s Q u s'):EP X ñ σ Q u s':=by obtain⟨v,H',os,bare,un,Iq,r,q⟩:=h;obtain⟨hh,g,d,t,os'⟩:=s';obtain rfl:os'=s.os:=os;exact⟨v,H',I.call un Iq bare λb z=>absurd z<|by simp,r,q⟩
noncomputable def yj (sp:Sp)(dvs:π)(E:XK)(t:TA):TE:=λσ H Q=>t σ H λvs H1=>sp (vs++dvs) H1 Q E
noncomputable def qm (C:Addr)(m:Str)(sp:Sp)(dvs:π)(E:XK)(ta:TE)(t:TA):TE:=λσ H Q=>ta σ H λx H1=>∃ a dx fs,x=.ref a/\H1 a=some (.ins C dx fs)/\fs.lookup m=none/\
 t σ H1 λvs H2=>sp (x::(vs++dvs)) H2 Q E
noncomputable def yi (C:Addr)(sp:Sp)(dvs:π)(E:XK)(t:TA):TE:=λσ H Q=>t σ H λvs H1=>∀ x dx,H1 x=none->H1 dx=none->dx≠x->
 sp (.ref x::(vs++dvs)) (upd (upd H1 dx (.own x)) x (.ins C dx [])) (λv H2=>v=.non/\Q (.ref x) H2) E
def Binds (K:Ψ)(fd:È)(ps:η)(ds:θ):Prop:=
 ∀ (s:Ê)(us:θ),K.In s.heap->(us++ds).length=ps.length->BindsTo s fd ⟨us,[]⟩ (ps.zip (us++ds))
theorem Binds.all {K:Ψ}(h:∀ us:θ,us.length=ps.length->bindArgs fd ⟨us,[]⟩=pure (ps.zip us)):Binds K fd ps []:=λs us _ hl=>by rw[El]at hl ⊢;exact .of_eq (h us hl)
def iG (CX:S7)(X:Cx)(E:XK):Prop:=∀ (ñ:ζ)(σ:St)(H:Hp)(s:Ê)(e:Value)(s':Ê),Inv X ñ σ H s->CX X.stack H s E e s'->X.xe e s'
section
variable {f C:Addr}
theorem sR (F:HP X.prog X.w X.K X.mg X.base CX k f fd ps sp)(hr:IA k X.A)(hb:Binds X.K fd ps ds)(hd:Vals dvs ds)(hx:iG CX X E)(I:Inv X ñ σ H s)(r:Vals vs us)(h:sp (vs++dvs) H Q E):wpAny X.Ę X.A (call (.ref f) us) (EP X ñ σ Q) X.xe s:=by
 have r2:=r.append hd;have hl:(us++ds).length=ps.length:=by rw[<- r2.length];exact F.len _ _ _ _ h
 refine wpAny_call (codeAny_mono (F.run X.A _ s H ⟨us,[]⟩ _ _ Q E hr I.YX (hb s us I.N0 hl) r2 h) λr s' hq=>?_)
 cases r with
 | error e=>exact hx _ σ H s e s' I hq
 | ok fl=>
  cases fl with
  | ret u=>exact I.after hq
  | next=>exact False.elim hq
  | brk=>exact False.elim hq
  | cont=>exact False.elim hq
abbrev _root_.Ē (X:L2.Cx)(pos:PySem.Pos)(es:List PySem.Expr):Prop:=(backTo pos (starEach es X.env)).any (·.1)=false
theorem yz (F:HP X.prog X.w X.K X.mg X.base CX k f fd ps sp)(hr:IA k X.A)(hg:Gl X x)(hm:X.mg x=some (.ref f))(hk:W.keepIn X.K (.ref f)=true)(hb:Binds X.K fd ps ds)(hd:Vals dvs ds)(hx:iG CX X E)(ha:PA X (e::es) t)(Mb:autoParam (Ė x) ĩ)(he:autoParam (Ĕ X e es) ŕ)(L':autoParam (Ē X pos es) ŕ):
  PE X (.Call (.Name x p) (e::es) [] pos) (yj sp dvs E t):=by
 intro ñ s σ H Q I h;refine FU (mV I hg hm ?_ Mb);refine W.callWith_K I.ok.mod.Wz hk (Iz (ha pos _ s σ H _ I h) λus s1 ⟨vs,H1,I1,r,q⟩=>⟨I1.N0,?_⟩) he L';exact sR F hr hb hd hx I1 r q
theorem yw (he:PE X o ta)(c:LF X.K C)(hm:yb X.K C m f)(F:HP X.prog X.w X.K X.mg X.base CX k f fd ps sp)(hr:IA k X.A)(hb:Binds X.K fd ps ds)(hd:Vals dvs ds)(hx:iG CX X E)(ha:PA X (e::es) t)(QQ:autoParam (Ĕ X e es) ŕ)(L':autoParam (Ē X pos es) ŕ)(ht:autoParam (eval (.Call (.Attribute o m apos) (e::es) [] pos) X.env=(do
   let ov <- eval o X.env
   standAt apos.atName
   let (f,first) <- holding [ov] (getMethod ov m pl)
   callWith pos f first (backTo pos (starEach (e::es) X.env)) (backToKw pos (keywordEach [] X.env)))) ŕ):
  PE X (.Call (.Attribute o m apos) (e::es) [] pos) (qm C m sp dvs E ta t):=by
 intro ñ s σ H Q I h;refine W.methodCall_KW (Iz (he _ s σ H _ I h) λu s1 gR=>?_) ht;obtain⟨x,H1,I1,rx,a,dx,fs,ex,ea,l,q⟩:=gR;subst ex;obtain rfl:u=Value.ref a:=rx;refine jw I1 ea c hm l ?_;refine W.callWith_K I.ok.mod.Wz hm.kp (Iz (ha pos _ s1 σ H1 _ I1 q) λus s2 ⟨vs,H2,I2,r,q2⟩=>⟨I2.N0,?_⟩) QQ L';exact sR (vs:=.ref a::vs) F hr hb hd hx I2 (.cons rfl r) q2
theorem B6 (he:PE X o ta)(c:LF X.K C)(hm:yb X.K C m f)(F:HP X.prog X.w X.K X.mg X.base CX k f fd ps sp)(hr:IA k X.A)(hb:Binds X.K fd ps ds)(hd:Vals dvs ds)(hx:iG CX X E)(ht:autoParam (eval (.Call (.Attribute o m apos) [] [] pos) X.env=(do
   let ov <- eval o X.env
   standAt apos.atName
   let (f,first) <- holding [ov] (getMethod ov m pl)
   callWith pos f first (backTo pos (starEach [] X.env)) (backToKw pos (keywordEach [] X.env)))) ŕ):
  PE X (.Call (.Attribute o m apos) [] [] pos) (qm C m sp dvs E ta wR):=by
 intro ñ s σ H Q I h;refine W.methodCall_KW (Iz (he _ s σ H _ I h) λu s1 gR=>?_) ht;obtain⟨x,H1,I1,rx,a,dx,fs,ex,ea,l,q⟩:=gR;subst ex;obtain rfl:u=Value.ref a:=rx;refine jw I1 ea c hm l ?_;exact W.callWith_K0 I1.N0 hm.kp (sR (vs:=[.ref a]) F hr hb hd hx I1 (.cons rfl .nil) q)
structure Mk (K:Ψ) (C f:Addr):Prop where
 makes:W.makesIn K C=true
 init:W.findIn K (.ref C) "__init__"=some (some (.ref f))
 fn:W.isFn K (.ref f)=true
 kp:W.keepIn K (.ref C)=true
theorem uS (M:Mk X.K C f)(F:HP X.prog X.w X.K X.mg X.base CX k f fd ps sp)(hr:IA (k+1) X.A)(hb:Binds X.K fd ps ds)(hd:Vals dvs ds)(hx:iG CX X E)(I:Inv X ñ σ H s)(r:Vals vs us)(h:∀ x dx,H x=none->H dx=none->dx≠x->sp (.ref x::(vs++dvs)) (upd (upd H dx (.own x)) x (.ins C dx [])) (λv H2=>v=.non/\Q (.ref x) H2) E):
  wpAny X.Ę X.A (call (.ref C) us) (EP X ñ σ Q) X.xe s:=by
 have hq:=h _ _ (I.Iq.fresh<|Nat.le_succ _) (I.Iq.fresh<|DV _)<|EL (EX _);have I2:=Inv.made (C:=C) I;have r2:Vals (V.ref (s.heap.objs.size+1)::_) _:=.cons rfl<|r.append hd;have hl:(Value.ref (s.heap.objs.size+1)::us++ds).length=ps.length:=by have e:=r2.length;rw[F.len _ _ _ _ hq]at e;exact e.symm
 refine wpAny_call (Bx I.N0 M.makes M.init (FK.mp M.fn) (codeAny_mono (F.run _ _ _ _ ⟨Value.ref _::us,[]⟩ _ _ _ E (hr.make C us [])
  (I2.YX.make C us []) (hb _ _ I2.N0 hl) r2 hq) λr s' P'=>?_))
 cases r with
 | error e=>exact hx _ σ _ _ e s' I2 P'
 | ok fl=>
  cases fl with
  | ret u=>
   obtain⟨v,H',I3,rv,ev,q3⟩:=I2.after P';subst ev;exact⟨rv,⟨V.ref _,H',I3,rfl,q3⟩⟩
  | next=>exact False.elim P'
  | brk=>exact False.elim P'
  | cont=>exact False.elim P'
theorem CU (M:Mk X.K C f)(F:HP X.prog X.w X.K X.mg X.base CX k f fd ps sp)(hr:IA (k+1) X.A)(hg:Gl X x)(hm:X.mg x=some (.ref C))(hb:Binds X.K fd ps ds)(hd:Vals dvs ds)(hx:iG CX X E)(ha:PA X (e::es) t)(Mb:autoParam (Ė x) ĩ)(he:autoParam (Ĕ X e es) ŕ)(L':autoParam (Ē X pos es) ŕ):
  PE X (.Call (.Name x p) (e::es) [] pos) (yi C sp dvs E t):=by
 intro ñ s σ H Q I h;refine FU (mV I hg hm ?_ Mb);refine W.callWith_K I.ok.mod.Wz M.kp (Iz (ha pos _ s σ H _ I h) λus s1 ⟨vs,H1,I1,r,q⟩=>⟨I1.N0,?_⟩) he L';exact uS M F hr hb hd hx I1 r q
theorem B7 (M:Mk X.K C f)(F:HP X.prog X.w X.K X.mg X.base CX k f fd ps sp)(hr:IA (k+1) X.A)(hg:Gl X x)(hm:X.mg x=some (.ref C))(hb:Binds X.K fd ps ds)(hd:Vals dvs ds)(hx:iG CX X E)(Mb:autoParam (Ė x) ĩ):PE X (.Call (.Name x p) [] [] pos) (yi C sp dvs E wR):=by intro ñ s σ H Q I h;refine FU (mV I hg hm ?_ Mb);exact W.callWith_K0 I.N0 M.kp (uS M F hr hb hd hx I .nil h)
end
structure ae (N P:η) (sc:Scope):Prop where
 kind:sc.kind=.function
 co:sc.isCoroutine=false
 gen:sc.isGenerator=false
 nd:N.Nodup
 pre:N.take P.length=P
 par:∀ x∈P,sc.names.lookup x=some .local \/ sc.names.lookup x=some .cell
 Ve:∀ y∈sc.names,y.2≠.free
theorem rX {kindOf:Str->Option NameKind}:∀ {binds:Û}{m:Ω},(∀ v,(x,v)∉binds)->bindL kindOf binds m x=m x
 | [],_,_=>rfl
 | (n,v)::r,m,h=>by
  unfold bindL;rw[rX λw hw=>h w<|E6 _ hw];split
  ·have:x≠n:=by rintro rfl;exact h v E7
   simp[this]
  ·rfl
theorem rZ {kindOf:Str->Option NameKind}:∀ {binds:Û}{m:Ω},(∀ v,(x,v)∉binds)->bindC kindOf binds m x=m x
 | [],_,_=>rfl
 | (n,v)::r,m,h=>by
  unfold bindC;rw[rZ λw hw=>h w<|E6 _ hw];split
  ·rfl
  ·have:x≠n:=by rintro rfl;exact h v E7
   simp[this]
theorem rY {kindOf:Str->Option NameKind}:∀ {P:η}{vs:θ}{i:Nat}{m:Ω},P.Nodup->P[i]?=some x->vs[i]?=some v->kindOf x=some .local->
  bindL kindOf (P.zip vs) m x=some v
 | [],_,_,_,_,h,_,_=>by simp at h
 | _::_,[],_,_,_,_,h,_=>by simp at h
 | p::P,w::vs,0,m,nd,h1,h2,hk=>by simp at h1 h2;subst h1;subst h2;show bindL kindOf ((p,w)::P.zip vs) m p=_;unfold bindL;rw[rX λv hv=>(Ex.mp nd).1 (FO hv).1,if_pos hk];simp
 | p::P,w::vs,i+1,m,nd,h1,h2,hk=>by show bindL kindOf ((p,w)::P.zip vs) m x=_;unfold bindL;exact rY (i:=i) (Ex.mp nd).2 (by simpa using h1) (by simpa using h2) hk
theorem s0 {kindOf:Str->Option NameKind}:∀ {P:η}{vs:θ}{i:Nat}{m:Ω},P.Nodup->P[i]?=some x->vs[i]?=some v->kindOf x≠some .local->
  bindC kindOf (P.zip vs) m x=some v
 | [],_,_,_,_,h,_,_=>by simp at h
 | _::_,[],_,_,_,_,h,_=>by simp at h
 | p::P,w::vs,0,m,nd,h1,h2,hk=>by simp at h1 h2;subst h1;subst h2;show bindC kindOf ((p,w)::P.zip vs) m p=_;unfold bindC;rw[rZ λv hv=>(Ex.mp nd).1 (FO hv).1,if_neg hk];simp
 | p::P,w::vs,i+1,m,nd,h1,h2,hk=>by show bindC kindOf ((p,w)::P.zip vs) m x=_;unfold bindC;exact s0 (i:=i) (Ex.mp nd).2 (by simpa using h1) (by simpa using h2) hk
noncomputable def start (N:η)(vs:π):St:=vs.map some++List.replicate (N.length - vs.length) none
noncomputable def mN (CX:S7)(P:É)(w:World)(K:Ψ)(mg:Ω)(base:Heap)(N:η)(ğ:Str)(scope:Scope)(f:Addr)(cd:Value)(A:Ë)(outer:List Env)(s:Ê)(H:Hp)(E:XK):Cx where
 prog:=P
 w:=w
 K:=K
 mg:=mg
 base:=base
 A:=A.deeper (envOfC ğ scope s.heap.objs.size f cd)
 N:=N
 s₀:=s
 H₀:=H
 env:=envOfC ğ scope s.heap.objs.size f cd
 outer:=outer
 stack:=envOfC ğ scope s.heap.objs.size f cd::outer
 ex:=[]
 calm:=true
 fn:=λ_=>true
 pn:=[]
 xe:=λe s'=>wpAny (model P w) (A.deeper (envOfC ğ scope s.heap.objs.size f cd)) (leaving (envOfC ğ scope s.heap.objs.size f cd) e) (λ_ Xj=>CX outer H s E e Xj) (λe' Xj=>CX outer H s E e' Xj) s'
theorem wv {sc:Scope}(h:sc.names.lookup x=some .cell):∃ c,(cellsFrom n sc.names []).lookup x=some c:=by have q:=W.cellsFrom_some _ n []<|.inl h;exact Fp.mp q
theorem zV {K:Ψ}(S:ae N ps scope)(hd:A.handled=none)(e0:Qb P w K mg base A outer s H)(hl:vs.length=ps.length)(r:Vals vs us)(x:InCallC s s.heap.objs.size (bindL (envOfC ğ scope s.heap.objs.size f cd).kindOf (ps.zip us) λ_=>none) (cellsFrom (s.heap.objs.size+1) scope.names []) (bindC (envOfC ğ scope s.heap.objs.size f cd).kindOf (ps.zip us) λ_=>none) s1):
  Inv (mN CX P w K mg base N ğ scope f cd A outer s H E) [] (start N vs) H s1:=by
 have L':ps.length<=N.length:=by have:=congrArg List.length S.pre;rw[E4]at this;omega
 obtain⟨h1,tk,rfl,hk⟩:=x.done;have XQ:∀ b,b∉(mN CX P w K mg base N ğ scope f cd A outer s H E).ex:=λb z=>absurd (show b∈([]) from z) (by simp);refine⟨⟨e0.mod,S.kind,rfl,rfl,DV _,λy z c h1 h2=>?_,λy hy=>?_,λy c _ h=>?_,λ_=>hd,Around.frames_deeper e0.frames,.inr ⟨rfl,rfl⟩,λb z=>absurd z<|XQ b,e0.bs,e0.Sx,λb _ _=>XQ b,λb z=>absurd z<|XQ b,e0.Nv,e0.VZ⟩,
  rfl,e0.bare,Un.kept hk,⟨_,x.toInCall.ns,λi y v h1 h2 h3=>?_⟩,λy c h=>⟨_,x.cell y c h⟩,e0.Iq.fresh<|DV _,λy c h=>?_,λp hp=>absurd (show p∈([]) from hp)<|by simp,e0.Iq.kept hk,?_⟩
 ·exact name_of_addr x.apart (GK h1) (GK h2)
 ·have hy:=hy;rcases hy with hy|hy
  ·exact wv hy
  ·exact absurd rfl (S.Ve _<|GK hy)
 ·exact GU (x.above y c<|GK h)
 ·have hi:i<vs.length:=by
   unfold start at h2;by_cases hi:i<vs.length
   ·exact hi
   ·rw[Es<|by simpa using hi]at h2;rw[GN]at h2;split at h2 <;> cases h2
  have ha:vs[i]?=some v:=by
   unfold start at h2;rw[Em<|by simpa using hi,DN]at h2
   cases e:vs[i]? with
   | none=>rw[e]at h2;cases h2
   | some a=>rw[e]at h2;cases h2;rfl
  obtain⟨u,hu,rv⟩:=r.get ha;have hp:ps[i]?=some y:=by rw[<- S.pre,EK<|by omega];exact h1
  have ndP:ps.Nodup:=by rw[<- S.pre];exact S.nd.sublist (List.take_sublist _ _)
  refine⟨u,rv,?_⟩;rcases S.par y (DO hp) with k|k
  ·exact .inl ⟨k,rY ndP hp hu k⟩
  ·obtain⟨c,e⟩:=wv k;refine .inr ⟨.inl k,c,e,?_⟩;have q:=x.cell y c e;rw[s0 ndP hp hu (by show scope.names.lookup y≠_;rw[k];decide)]at q;exact q
 ·exact e0.Iq.fresh (GU<|x.above y c (GK h))
 ·unfold start;show _=N.length;rw[DT,DH,FV];omega
theorem Uq {K:Ψ}{dV kV:Value}(lk:K.lookup f=some ⟨oc,od,.func (W.fnOf name ğ params body scope dV kV doc pm an HU ct),Kv⟩)(Qv:W.codeIn K HU ğ=true)(S:ae N ps scope)(len:∀ vs H Q E,sp vs H Q E->vs.length=ps.length)(MK:∀ (A:Ë)(outer:List Env)(s:Ê)(H:Hp)(vs:π)(Q:VK)(E:XK),IA k (A.deeper (envOfC ğ scope s.heap.objs.size f HU))->sp vs H Q E->
   ∃ t,N6 (mN CX P w K mg base N ğ scope f HU A outer s H E) body t/\t { nx:=λ_ H'=>Q .non H',rt:=Q } (start N vs) H):
  HP P w K mg base CX (k+1) f (W.fnOf name ğ params body scope dV kV doc pm an HU ct) ps sp:=by
 refine⟨len,λA outer s H _ us vs Q E hr e0 hb r Se=>?_⟩;have hl:=len _ _ _ _ Se;have KX:=e0.mod.Wz.keeps λb o e=>(e0.bs b o e).1;have lim:=e0.mod.nolimit.keeps λb o e=>(e0.bs b o e).1;have Yv:∀ y∈ps.zip us,scope.names.lookup y.1=some .local\/(scope.names.lookup y.1=some .cell/\((cellsFrom (s.heap.objs.size+1) _ []).lookup y.1).isSome=true):=λgR hy=>by
  obtain⟨n,v⟩:=gR;rcases S.par n (FO hy).1 with q|q
  ·exact .inl q
  ·exact .inr ⟨q,W.cellsFrom_some _ _ _<|.inl q⟩
 refine codeAny_call_function hr.depth (KX _ _ lk) rfl S.co S.gen rfl (W.codeRec_of KX Qv) (hb _ _ _ _ ?_);refine wpAny_newFunctionEnv_cells S.kind Yv λenv he s1 x=>?_;subst he;refine⟨lim.keeps x.toInCall.keep,codeAny_func ?_⟩;obtain⟨t,ht,hq⟩:=MK A _ s H vs Q E (hr.deeper _) Se;have I:Inv (mN CX P w K mg _ N _ _ f HU A _ s H E) [] _ H s1:=zV S hr.hd e0 hl r x;refine FJ (ht [] s1 _ H _ I hq) (λfl s' hs=>?_) λe s' hs=>hs;have fin:∀ {σ':St}{H':Hp}{v:V}{u:Value},Inv (mN CX P w K mg base N ğ scope f HU A _ s H E) [] σ' H' s'->RelV v u->Q v H'->CE outer P w H s Q u s':=
  λ{σ' H' v u} J rv q=>⟨v,H',J.os,J.bare,J.base,J.Iq,rv,q⟩
 cases fl with
 | ret u=>
  obtain⟨v,σ',H',J,rv,q⟩:=hs;exact fin J rv q
 | next=>
  obtain⟨σ',H',J,q⟩:=hs;exact fin (v:=V.non) J rfl q
 | brk=>
  obtain⟨_,_,_,q⟩:=hs;exact False.elim q
 | cont=>
  obtain⟨_,_,_,q⟩:=hs;exact False.elim q
section
variable {t:TA}{r:List V->Hp->VK->Prop}
noncomputable def tCB (r:List V->Hp->VK->Prop)(t:TA):TE:=λσ H Q=>t σ H λvs H1=>r vs H1 Q
theorem bQ {id:String}(hc:IL X (.builtin id) r)(hg:Gl X x)(hm:X.mg x=none)(hv:bootBuiltins x=some (.builtin id))(ha:PA X (e::es) t)(hn:autoParam (x≠"__name__") ĩ)(Mb:autoParam (Ė x) ĩ)(he:autoParam (Ĕ X e es) ŕ)(L':autoParam (Ē X pos es) ŕ):PE X (.Call (.Name x p) (e::es) [] pos) (tCB r t):=by intro ñ s σ H Q I h;refine FU (gx I hg hm hv ?_ hn Mb);exact PyProof.Rows.callWith_builtin1 (Iz (ha pos _ s σ H _ I h) λus s1 gR=>(by obtain⟨vs,H1,I1,r1,q1⟩:=gR;exact hc _ s1 σ H1 vs us Q I1 r1 q1)) he L'
theorem fS (hc:IL X (.type T) r)(hg:Gl X x)(hm:X.mg x=none)(hv:bootBuiltins x=some (.type T))(ha:PA X (e::es) t)(hn:autoParam (x≠"__name__") ĩ)(Mb:autoParam (Ė x) ĩ)(he:autoParam (Ĕ X e es) ŕ)(L':autoParam (Ē X pos es) ŕ):PE X (.Call (.Name x p) (e::es) [] pos) (tCB r t):=by intro ñ s σ H Q I h;refine FU (gx I hg hm hv ?_ hn Mb);exact F7 (Iz (ha pos _ s σ H _ I h) λus s1 gR=>(by obtain⟨vs,H1,I1,r1,q1⟩:=gR;exact hc _ s1 σ H1 vs us Q I1 r1 q1)) he L'
end
end L2
namespace HT
open PySem PyProof.Rows
theorem RQ (A:Ë)(s:Ê)(a:Int)(t:Tok)(c:Int)(u:Tok):∃ e,SeqAt.EqAt A s (.int a t) (.int c u) e/\(e=true ↔ a=c):=
 ⟨_,SeqAt.EqAt.int_int a t c u,by simp⟩
noncomputable def Oy (n d:Nat):Option Int->Nat
 | none=>d
 | some v=>if v<0 then (v+(n:Int)).toNat else min v.toNat n
theorem Pj (n d:Nat):Oy n d none=d:=rfl
theorem NA (n d k:Nat):Oy n d (some (k:Int))=min k n:=by show (if (k)<0 then ((k)+(n:Int)).toNat else min (k:Int).toNat n)=min k n;rw[if_neg<|by omega,GC]
end HT
namespace L2
open PySem PySem.Spec PyProof.Rows
abbrev TO:=St->Hp->(Option Int->Ø)->Prop
def PO (X:Cx)(e:Option Expr)(t:TO):Prop:=
 ∀ (ñ:ζ)(s:Ê)(σ:St)(H:Hp)(Q:Option Int->Ø),Inv X ñ σ H s->t σ H Q->
  wpAny (model X.prog X.w) X.A (evalPart e X.env) (λu s'=>∃ o H',Inv X ñ σ H' s'/\IsPart u o/\Q o H') X.xe s
noncomputable def Ct:TO:=λ_ H Q=>Q none H
noncomputable def Xa (t:TE):TO:=λσ H Q=>t σ H λx H1=>∃ i,x=.int i/\Q (some i) H1
theorem xJ:∀ {us:θ},Vals (ns.map V.int) us->IntsAre us ns:=by
 induction ns with
 | nil=>intro us r;cases r;exact .nil
 | cons n ns ih=>
  intro us r
  cases r with
  | cons r1 r2=>
   obtain⟨t,e⟩:=r1;subst e;exact .cons n t (ih r2)
section
variable {X:Cx}{te:TE}{lo hi:Option Expr}{tl th:TO}
theorem SO:PO X none Ct:=by intro ñ s σ H Q I h;rw[evalPart_none];exact DW ⟨none,H,I,.none,h⟩
theorem sZ (h:PE X e te):PO X (some e) (Xa te):=by intro ñ s σ H Q I hw;refine Iz (h _ s σ H _ I hw) λu s1 gR=>?_;obtain⟨x,H1,I1,r1,q1⟩:=gR;obtain⟨i,rfl,q⟩:=q1;obtain⟨t,rfl⟩:=r1;exact⟨some i,H1,I1,.int i t,q⟩
abbrev _root_.Ó:=Option Int
def WX (X:Cx)(r:V->Option Int->Option Int->Hp->VK->Prop):Prop:=
 ∀ (ñ:ζ)(s:Ê)(σ:St)(H:Hp)(x:V)(v vl vu:Value)(lo hi:Ó)(sl:Addr)(Q:VK),Inv X ñ σ H s->RelV x v->s.heap.IsSliceOf sl vl vu .none->IsPart vl lo->IsPart vu hi->r x lo hi H Q->
  ∃ T id,typeLookup (.type T) "__getitem__"=pure (some (.builtin id))/\s.TypeIs v T/\wpAny (model X.prog X.w) X.A (getItem v (.ref sl)) (EP X ñ σ Q) X.xe s
noncomputable def tSl (r:V->Option Int->Option Int->Hp->VK->Prop)(te:TE)(tl th:TO):TE:=λσ H Q=>te σ H λx H1=>tl σ H1 λl H2=>th σ H2 λu H3=>r x l u H3 Q
theorem uZ (hr:WX X r)(he:PE X e te)(hl:PO X lo tl)(hu:PO X hi th):PE X (.Subscript e (.Slice lo hi none p2) pos) (tSl r te tl th):=by intro ñ s σ H Q I h;refine Subscript_ (Iz (he _ s σ H _ I h) λv s1 gR=>?_);obtain⟨x,H1,I1,r1,q1⟩:=gR;refine wpAny_Slice (Iz (hl _ s1 σ H1 _ I1 q1) λvl s2 ⟨l,H2,I2,pl,q2⟩=>Iz (hu _ s2 σ H2 _ I2 q2) λvu s3 gR=>?_);obtain⟨u,H3,I3,pu,q3⟩:=gR;refine DW ?_;have I4:Inv X _ σ H3 { s3 with heap:=s3.heap.push { cls:=.type "slice",data:=.fields #[vl,vu,.none] } }:=I3.kept λb ob q=>DU _ q;obtain⟨T,id,hT,ht,hg⟩:=hr _ { s3 with heap:=s3.heap.push { cls:=.type "slice",data:=.fields #[vl,vu,.none] } } σ H3 x v vl vu l u _ Q I4 r1 (Heap.IsSliceOf.new ..) pl pu q3;exact tail_any ht hT hg (by with_unfolding_all rfl)
noncomputable def qf (xs:π)(lo hi:Ó):π:=(xs.drop (HT.Oy xs.length 0 lo)).take (HT.Oy xs.length xs.length hi - HT.Oy xs.length 0 lo)
theorem wj (xs:π)(lo hi:Ó):(qf xs lo hi).length<=xs.length:=by unfold qf;rw[E4,GI];omega
end
noncomputable def RF (n:Nat)(i:Int):Option Nat:=if 0<=i then (if i<n then some i.toNat else none) else if -(n:Int)<=i then some (i+n).toNat else none
noncomputable def O3 {α:Type}(xs:List α)(i:Int):Option α:=(RF xs.length i).bind λj=>xs[j]?
theorem yJ (h:RF n i=some j):seqIndex? i n=some j/\j<n/\-(n:Int)<=i/\i<n:=by
 unfold RF at h;by_cases h0:0<=i
 ·rw[if_pos h0]at h;by_cases h1:i<n
  ·rw[if_pos h1]at h;have e:=Option.some.inj h;exact⟨by rw[seqIndex_of h0 h1,e],by omega,by omega,h1⟩
  ·rw[if_neg h1]at h;cases h
 ·rw[if_neg h0]at h;by_cases h1:-(n)<=i
  ·rw[if_pos h1]at h;have e:=Option.some.inj h;exact⟨by rw[seqIndex_neg (by omega) h1,e],by omega,h1,by omega⟩
  ·rw[if_neg h1]at h;cases h
theorem z5 (h:O3 xs i=some v):∃ j,seqIndex? i xs.length=some j/\xs[j]?=some v/\j<xs.length/\-(xs.length:Int)<=i/\i<xs.length:=by
 unfold O3 at h
 cases e:RF _ i with
 | none=>rw[e]at h;cases h
 | some j=>
  rw[e]at h;obtain⟨h1,h2,h3,h4⟩:=yJ e;exact⟨j,h1,h,h2,h3,h4⟩
theorem kz {xs:List α}{j:Nat}{v:α}(h:xs[j]?=some v):O3 xs (j:Int)=some v:=by
 have hj:=(DJ.mp h).1;have e:RF xs.length (j)=some j:=by unfold RF;rw[if_pos<|by omega,if_pos<|by omega];simp
 unfold O3;rw[e];exact h
def n8 (b:Expr):Prop:=∀ o i,subscripted b false o i=operate [o,i] (getItem o i)
def Qy (X:Cx)(r:R2):Prop:=
 ∀ (value slice:Expr)(ñ:ζ)(s:Ê)(σ:St)(H:Hp)(x y:V)(v u:Value)(Q:VK),Inv X ñ σ H s->RelV x v->RelV y u->r x y H Q->
  subscripted slice false v u=operate [v,u] (getItem v u)->wpAny (model X.prog X.w) X.A (subscriptTail value slice v u) (EP X ñ σ Q) X.xe s
def MtR (X:Cx)(id:String)(r:V->List V->Hp->VK->Prop):Prop:=
 ∀ (ñ:ζ)(s:Ê)(σ:St)(H:Hp)(x:V)(xs:π)(v:Value)(us:θ)(Q:VK),Inv X ñ σ H s->RelV x v->Vals xs us->r x xs H Q->
  wpAny (model X.prog X.w) X.A (call (.builtin id) (v::us)) (EP X ñ σ Q) X.xe s
section
variable {a b:Expr}
theorem Qy.or (h:Qy X r)(h':Qy X r'):Qy X (λx y H Q=>r x y H Q\/r' x y H Q):=by
 intro value slice ñ s σ H x y v u Q I rx ry q hs;rcases q with q|q
 ·exact h _ _ _ s σ H x y v u Q I rx ry q hs
 ·exact h' _ _ _ s σ H x y v u Q I rx ry q hs
theorem U6 {tb:TE}(hr:Qy X r)(ha:PE X a ta)(hb:PE X b tb)(hs:n8 b):PE X (.Subscript a b pos) (TB r ta tb):=by intro ñ s σ H Q I h;exact Subscript_ (Wf ha hb I h λv u s2 x y H2 I2 rx ry q=>hr a b _ s2 σ H2 x y v u Q I2 rx ry q<|hs _ _)
noncomputable def CM (K:Ψ):R2:=λx y H Q=>∃ p xs i v,x=.ref p/\y=.int i/\Il K H p xs/\O3 xs i=some v/\Q v H
noncomputable def CK (K:Ψ):R2:=λx y H Q=>∃ p xs i v,x=.ref p/\y=.int i/\Kc K H p xs/\O3 xs i=some v/\Q v H
theorem yI:Qy X (CM X.K):=by
 intro value _ ñ s σ H x y v u Q I rx ry h hs;obtain⟨p,xs,i,z,rfl,rfl,hq,he,q⟩:=h
 cases rx;obtain⟨t,rfl⟩:=ry;obtain⟨its,r,pl,hz⟩:=I.list hq;obtain⟨j,h1,h2,h3,h4,h5⟩:=z5 he;obtain⟨w,ew,Oe⟩:=r.get h2;have hl:=r.length;have hn:=oH;have fin:EP X _ σ Q w s:=⟨z,H,I,Oe,q⟩
 by_cases h0:0<=i
 ·have hj:i.toNat=j:=by rw[seqIndex_of h0 h5]at h1;exact Option.some.inj h1
  exact item_listR pl.isList h0 (by omega) (by rw[hj];simpa using ew) fin hs
 ·have hj:(i+(its.toArray.size)).toNat=j:=by rw[seqIndex_neg (by omega) h4]at h1;rw[Ee,<- hl];exact Option.some.inj h1
  exact subscriptTail_builtinR pl.isList.typeIs slot_list_getitem.lookup
   (wpAny_getItem_list_neg pl.isList (by omega) (by rw[Ee] <;> omega) (by omega) (by rw[hj];simpa using ew) ⟨rfl,fin⟩) hs
theorem BC:Qy X (CK X.K):=by
 intro value _ ñ s σ H x y v u Q I rx ry h hs;obtain⟨p,xs,i,z,rfl,rfl,hq,he,q⟩:=h
 cases rx;obtain⟨t,rfl⟩:=ry;obtain⟨its,r,pl,hz⟩:=I.tuple hq;obtain⟨j,h1,h2,h3,h4,h5⟩:=z5 he;obtain⟨w,ew,Oe⟩:=r.get h2;have hl:=r.length;have hn:=oH;have fin:EP X _ σ Q w s:=⟨z,H,I,Oe,q⟩
 exact subscriptTail_builtinR pl.typeIs slot_tuple_getitem.lookup
  (getItem_tuple pl (by omega) (by omega) (by rw[Ee,<- hl];exact h1) (by simpa using ew) ⟨rfl,fin⟩) hs
theorem xz (its:θ)(n j:Nat)(u:Value):Obj.mapSeq (·.setIfInBounds j u) { cls:=.type "list",data:=.seq its.toArray n }={ cls:=.type "list",data:=.seq (its.set j u).toArray n }:=by simp[Obj.mapSeq]
theorem Inv.lst (I:Inv X ñ σ H s)(h:H p=some (.lst xs)):
  ∃ (its:θ)(n:Nat),Vals xs its/\s.heap.get? p=some { cls:=.type "list",data:=.seq its.toArray n }/\xs.length<=sizeLine:=by
 obtain⟨z,its,n,r,e⟩:=I.Iq p _ h;exact⟨its,n,r,e,z⟩
theorem Inv.Vo {its:θ}(I:Inv X ñ σ H s)(h:H p=some (.lst xs))(ho:s.heap.get? p=some { cls:=.type "list",data:=.seq its.toArray n })(hf:f { cls:=.type "list",data:=.seq its.toArray n }={ cls:=.type "list",data:=.seq its'.toArray n' })(r:Vals ys its')(hz:ys.length<=sizeLine)(t:Nat):
  Inv X ñ σ (upd H p (.lst ys)) { s with heap:=s.heap.update p f,toks:=t }:=by
 have e:(s.heap.update p f).get? p=some { cls:=.type "list",data:=.seq its'.toArray n' }:=by rw[Heap.get?_update_self f ho (by rw[hf] <;> rfl),hf]
 refine I.write (by rw[h];trivial) (.inl rfl) (λb u hb q=>(Heap.get?_update_other _ _<|Ne.symm hb).trans q) ⟨_,e⟩ ?_;exact⟨hz,its',n',r,e⟩
def TV:V->V->V->Hp->Ø->Prop:=λo i v H Q=>∃ p xs k j,o=.ref p/\i=.int k/\H p=some (.lst xs)/\RF xs.length k=some j/\Q (upd H p (.lst (xs.set j v)))
theorem AI:Zm X TV:=by
 intro ñ s σ H o i v ov iv u Q I ro ri rv h;obtain⟨p,xs,k,j,rfl,rfl,hp,hj,q⟩:=h
 cases ro;obtain⟨t,rfl⟩:=ri;obtain⟨its,n,r,ho,hz⟩:=I.lst hp;obtain⟨h1,h2,h3,h4⟩:=yJ hj;have hl:=r.length;have hn:=oH;have I':=
  I.Vo hp ho (xz its n j u) (r.set rv j) (by rw[List.length_set];exact hz) s.toks
 by_cases h0:0<=k
 ·have hk:k.toNat=j:=by rw[seqIndex_of h0 h4]at h1;exact Option.some.inj h1
  exact W.ki_setAt ho h0 (by omega) (by rw[Ee,<- hl];exact h4) (by rw[hk];exact⟨_,I',q⟩)
 ·have hk:(k+(its.toArray.size)).toNat=j:=by rw[seqIndex_neg (by omega) h3]at h1;rw[Ee,<- hl];exact Option.some.inj h1
  exact W.ki_setBack ho (by omega) (by rw[Ee,<- hl];exact h3) (by omega) (by rw[hk];exact⟨_,I',q⟩)
theorem sA (lo hi:Ó)(n:Nat):(sliceBounds lo hi none n).1=((HT.Oy n 0 lo:Nat):Int)/\(sliceBounds lo hi none n).2.1=((HT.Oy n n hi:Nat):Int)/\(sliceBounds lo hi none n).2.2=1:=by
 refine⟨?_,?_,rfl⟩
 ·cases lo with
  | none=>simp[sliceBounds,HT.Oy]
  | some i=>
   simp only[sliceBounds,HT.Oy,Option.getD_none];by_cases h:i<0
   ·simp only[h,if_true] <;> omega
   ·simp only[h,GR] <;> omega
 ·cases hi with
  | none=>simp[sliceBounds,HT.Oy]
  | some i=>
   simp only[sliceBounds,HT.Oy,Option.getD_none];by_cases h:i<0
   ·simp only[h,if_true] <;> omega
   ·simp only[h,GR] <;> omega
theorem pO (its:θ)(lo hi:Ó):slicePick its.toArray lo hi none=((its.drop (HT.Oy its.length 0 lo)).take (HT.Oy its.length its.length hi - HT.Oy its.length 0 lo)).toArray:=by obtain⟨h1,h2,h3⟩:=sA lo hi _;unfold slicePick;rw[h1,h2,h3];simp only[sliceRange_one,pick_run] <;> rfl
def a1c (K:Ψ):V->Option Int->Option Int->Hp->VK->Prop:=λx lo hi H Q=>∃ a xs,x=.ref a/\Il K H a xs/\∀ p,H p=none->Q (.ref p) (upd H p (.lst (qf xs lo hi)))
theorem SI:WX X (a1c X.K):=by
 intro ñ s σ H x v vl vu lo hi sl Q I rx hs pl pu h;obtain⟨a,xs,rfl,hx,q⟩:=h
 cases rx;obtain⟨its,r,ht,hz⟩:=I.list hx;have hlen:=r.length;refine⟨"list",_,slot_list_getitem.lookup,ht.isList.typeIs,?_⟩;refine wpAny_getItem_list_slice ht.isList hs pl pu .none (by simp) ?_ (by rw[Ee] <;> omega);rw[pO,<- hlen];refine⟨.ref _,_,I.laid (λb ob q=>DU _ q) (DV _) ?_,rfl,q _<|I.Iq.fresh (DV _)⟩;exact⟨Ei (wj xs lo hi) hz,_,0,(r.drop _).take _,Eb _ rfl⟩
noncomputable def eV:V->Bool
 | .non=>true
 | .bl _=>true
 | .int _=>true
 | .str _=>true
 | _=>false
noncomputable def Us:V->V->Bool
 | .non,.non=>true
 | .bl a,.bl b=>a==b
 | .bl a,.int b=>(if a then 1 else 0)==b
 | .int a,.bl b=>a==(if b then 1 else 0)
 | .int a,.int b=>a==b
 | .str a,.str b=>a==b
 | _,_=>false
theorem W5 (ry:RelV y u)(rx:RelV x v)(fy:eV y=true)(fx:eV x=true):SeqAt.EqAt A s u v (Us y x):=by
 cases y with
 | non=>
  cases ry
  cases x with
  | non=>cases rx;exact SeqAt.EqAt.same _
  | bl b=>cases rx;exact SeqAt.EqAt.none_bool b
  | int b=>obtain⟨t,rfl⟩:=rx;exact SeqAt.EqAt.none_int b t
  | str b=>obtain⟨t,rfl⟩:=rx;exact SeqAt.EqAt.none_str b t
  | _=>exact absurd (fx) Ef
 | bl a=>
  cases ry
  cases x with
  | non=>cases rx;exact SeqAt.EqAt.bool_none a
  | bl b=>cases rx;exact SeqAt.EqAt.bool_bool a b
  | int b=>obtain⟨t,rfl⟩:=rx;exact SeqAt.EqAt.bool_int a b t
  | str b=>obtain⟨t,rfl⟩:=rx;exact SeqAt.EqAt.bool_str a b t
  | _=>exact absurd (fx) Ef
 | int a=>
  obtain⟨t',rfl⟩:=ry
  cases x with
  | non=>cases rx;exact SeqAt.EqAt.int_none a t'
  | bl b=>cases rx;exact SeqAt.EqAt.int_bool a t' b
  | int b=>obtain⟨t,rfl⟩:=rx;exact SeqAt.EqAt.int_int a t' b t
  | str b=>obtain⟨t,rfl⟩:=rx;exact SeqAt.EqAt.int_str a t' b t
  | _=>exact absurd (fx) Ef
 | str a=>
  obtain⟨t',rfl⟩:=ry
  cases x with
  | non=>cases rx;exact SeqAt.EqAt.str_none a t'
  | bl b=>cases rx;exact SeqAt.EqAt.str_bool a t' b
  | int b=>obtain⟨t,rfl⟩:=rx;exact SeqAt.EqAt.str_int a t' b t
  | str b=>obtain⟨t,rfl⟩:=rx;exact SeqAt.EqAt.str_str a t' b t
  | _=>exact absurd (fx) Ef
 | _=>exact absurd (fy) Ef
noncomputable def Q5 (x:V)(u:Value):Bool:=match u with
 | .none=>Us .non x
 | .bool b=>Us (.bl b) x
 | .int i _=>Us (.int i) x
 | .str z _=>Us (.str z) x
 | _=>false
theorem BN (r:RelV y u)(f:eV y=true):Q5 x u=Us y x:=by
 cases y with
 | non=>cases r;rfl
 | bl b=>cases r;rfl
 | int i=>obtain⟨t,rfl⟩:=r;rfl
 | str z=>obtain⟨t,rfl⟩:=r;rfl
 | _=>exact absurd (f) Ef
theorem kA:∀ {xs:π}{us:θ},Vals xs us->xs.all eV=true->us.any (Q5 x)=xs.any λy=>Us y x
 | _,_,.nil,_=>rfl
 | y::xs,u::us,.cons r t,f=>by rw[List.all_cons,F6]at f;rw[Gz,Gz,BN r f.1,kA t f.2]
theorem iw (rx:RelV x v)(fx:eV x=true):∀ {xs:π}{us:θ},Vals xs us->xs.all eV=true->∀ u∈us,SeqAt.EqAt A s u v (Q5 x u)
 | _,_,.nil,_=>λu hu=>by cases hu
 | y::xs,u::us,.cons r t,f=>λu' hu=>by
  rw[List.all_cons,F6]at f;rcases E3.mp hu with rfl|hu
  ·rw[BN r f.1];exact W5 r rx f.1 fx
  ·exact iw rx fx t f.2 u' hu
noncomputable def Sa (x:V)(xs:π):Bool:=xs.any λy=>Us y x
noncomputable def ZH (K:Ψ)(neg:Bool):R2:=λx y H Q=>∃ p xs,y=.ref p/\(Il K H p xs\/Kc K H p xs)/\eV x=true/\xs.all eV=true/\Q (.bl (if neg then !Sa x xs else Sa x xs)) H
theorem qD:JT X (compareOp .In) (ZH X.K false):=by
 intro ñ s σ H x y v u Q I rx ry h;obtain⟨p,xs,rfl,hq,fx,fs,q⟩:=h
 cases ry;rcases hq with hq|hq
 ·obtain⟨its,r,pl,hz⟩:=I.list hq;refine SeqAt.in_listAt _ pl.isList (λw hw=>iw rx fx r fs w<|by simpa using hw) ⟨.bl _,H,I,rfl,?_⟩;rw[show its.toArray.any _=its.any (Q5 x) by simp,kA r fs];exact q
 ·obtain⟨its,r,pl,hz⟩:=I.tuple hq;refine SeqAt.in_tupleAt _ pl (λw hw=>iw rx fx r fs w<|by simpa using hw) ⟨.bl _,H,I,rfl,?_⟩;rw[show its.toArray.any _=its.any (Q5 x) by simp,kA r fs];exact q
theorem tq:JT X (compareOp .NotIn) (ZH X.K true):=by
 intro ñ s σ H x y v u Q I rx ry h;obtain⟨p,xs,rfl,hq,fx,fs,q⟩:=h
 cases ry;rcases hq with hq|hq
 ·obtain⟨its,r,pl,hz⟩:=I.list hq;refine SeqAt.notIn_listAt _ pl.isList (λw hw=>iw rx fx r fs w<|by simpa using hw) ⟨.bl _,H,I,rfl,?_⟩;rw[show its.toArray.any _=its.any (Q5 x) by simp,kA r fs];exact q
 ·obtain⟨its,r,pl,hz⟩:=I.tuple hq;refine SeqAt.notIn_tupleAt _ pl (λw hw=>iw rx fx r fs w<|by simpa using hw) ⟨.bl _,H,I,rfl,?_⟩;rw[show its.toArray.any _=its.any (Q5 x) by simp,kA r fs];exact q
theorem MO:IL X (.builtin "len") (λxs H Q=>∃ p ys,xs=[.ref p]/\(Il X.K H p ys\/Kc X.K H p ys)/\Q (.int ys.length) H):=by
 intro ñ s σ H xs us Q I r h;obtain⟨p,ys,rfl,hq,q⟩:=h;obtain⟨u,rfl,rx⟩:=gG r
 cases rx;have hn:=oH;rcases hq with hq|hq
 ·obtain⟨its,r',pl,hz⟩:=I.list hq;have hlen:=r'.length;exact Calls.call_len_list pl.isList (by simp only[Ee] <;> omega) ⟨.int _,H,I.tok _,⟨s.toks+1,by rw[Ee,hlen]⟩,q⟩
 ·obtain⟨its,r',pl,hz⟩:=I.tuple hq;have hlen:=r'.length;exact len_tuple pl (by simp only[Ee] <;> omega) ⟨.int ys.length,H,I.tok _,⟨s.toks+1,by rw[Ee,hlen]⟩,q⟩
theorem uf:IL X (.builtin "len") (λxs H Q=>∃ z,xs=[.str z]/\z.length<=sizeLine/\Q (.int z.length) H):=by intro ñ s σ H xs us Q I r h;obtain⟨z,rfl,hz,q⟩:=h;obtain⟨u,rfl,t,rfl⟩:=gG r;have hn:=oH;exact len_str (by omega) ⟨.int _,H,I.tok _,⟨_,rfl⟩,q⟩
theorem IL.or (h:IL X f r)(h':IL X f r'):IL X f (λxs H Q=>r xs H Q\/r' xs H Q):=by
 intro ñ s σ H xs us Q I rs q;rcases q with q|q
 ·exact h _ s σ H xs us Q I rs q
 ·exact h' _ s σ H xs us Q I rs q
theorem ue:IL X (.type "list") (λxs H Q=>∃ p ys,xs=[.ref p]/\(Il X.K H p ys\/Kc X.K H p ys)/\∀ l,H l=none->Q (.ref l) (upd H l (.lst ys))):=by
 intro ñ s σ H xs us Q I r h;obtain⟨p,ys,rfl,hq,q⟩:=h;obtain⟨u,rfl,rx⟩:=gG r
 cases rx;have fin:∀ (its:List _),Vals ys its->ys.length<=sizeLine->∀ (h':Heap)(c':Nat),_->
   h'.get? s.heap.objs.size=some { cls:=.type "list",dict:=none,data:=.seq _ c',slots:=#[] }->EP X _ σ Q _ { s with heap:=h' }:=λits r' hz h' c' kp e=>
  ⟨.ref _,_,I.laid kp (DV _)<|show Im _ X.w _ h' _ (.lst ys) from ⟨hz,its,c',r',e⟩,rfl,q _<|I.Iq.fresh (DV _)⟩
 rcases hq with hq|hq
 ·obtain⟨its,r',pl,hz⟩:=I.list hq;have hlen:=r'.length;obtain⟨o,ho,hc,n,hd⟩:=pl.isList;exact call_list_seq p (.inl rfl) ho hc hd (λh' c' kp e=>fin its r' hz h' c' kp e) (by simp only[Ee] <;> omega)
 ·obtain⟨its,r',pl,hz⟩:=I.tuple hq;have hlen:=r'.length;obtain⟨o,ho,hc,n,hd⟩:=pl;exact call_list_seq p (.inr rfl) ho hc hd (λh' c' kp e=>fin its r' hz h' c' kp e) (by simp only[Ee] <;> omega)
def tyV (K:Ψ)(T:String)(x:V)(H:Hp):Prop:=match x with
 | .str _=>T="str"
 | .int _=>T="int"
 | .ref p=>(T="list"/\∃ xs,Il K H p xs)\/(T="tuple"/\∃ o,K.lookup p=some o/\o.cls=.type "tuple"/\o.dict=none) \/
   (T="dict"/\((∃ ķ,H p=some (.dK ķ))\/∃ ķ,H p=some (.dT ķ)))\/(T="set"/\∃ S n,H p=some (.set S n))
 | _=>False
theorem Ay (I:Inv X ñ σ H s)(r:RelV x v)(ty:tyV X.K T x H):
  s.TypeIs v T/\∀ a,v=.ref a->∃ ob,s.heap.get? a=some ob/\ob.dict=none:=by
 cases x with
 | str z=>
  obtain⟨t,rfl⟩:=r
  cases (ty);exact⟨typeIs_str s z t,λ_ e=>nomatch e⟩
 | int i=>
  obtain⟨t,rfl⟩:=r
  cases (ty);exact⟨typeIs_int s i t,λ_ e=>nomatch e⟩
 | ref p=>
  cases r;rcases ty with⟨rfl,xs,hq⟩|⟨rfl,o,hk,hc,hd⟩|⟨rfl,hk⟩|⟨rfl,S,n,hk⟩
  ·obtain⟨its,_,pl,_⟩:=I.list hq;refine⟨pl.isList.typeIs,λa e=>?_⟩
   cases e;obtain⟨o,n,e,c,hd,_⟩:=pl;exact⟨o,e,hd⟩
  ·refine⟨⟨o,I.N0 p o hk,hc⟩,λa e=>?_⟩
   cases e;exact⟨o,I.N0 _ o hk,hd⟩
  ·have z:∃ o,s.heap.get? p=some o/\o.ExactDict:=by
    rcases hk with⟨ķ,hk⟩|⟨ķ,hk⟩
    ·obtain⟨_,_,_,_,o,_,_,e,ex,_⟩:=I.Iq p _ hk;exact⟨o,e,ex⟩
    ·obtain⟨_,_,_,_,o,_,_,e,ex,_⟩:=I.Iq p _ hk;exact⟨o,e,ex⟩
   obtain⟨o,e,ex⟩:=z;refine⟨⟨o,e,ex.1⟩,λa e2=>?_⟩
   cases e2;exact⟨o,e,ex.2.1⟩
  ·obtain⟨o,_,_,_,e,ex,_⟩:=I.Iq p _ hk;refine⟨⟨o,e,ex.1⟩,λa e2=>?_⟩
   cases e2;exact⟨o,e,ex.2.1⟩
 | _=>exact False.elim ty
noncomputable def UN (K:Ψ)(T:String)(r:V->List V->Hp->VK->Prop)(to:TE):TE:=λσ H Q=>to σ H λx H1=>tyV K T x H1/\r x [] H1 Q
noncomputable def Zz (K:Ψ)(T:String)(r:V->List V->Hp->VK->Prop)(to:TE)(t:TA):TE:=λσ H Q=>to σ H λx H1=>tyV K T x H1/\t σ H1 λxs H2=>r x xs H2 Q
variable {id:String}
theorem V8 (pa:PlainAttrs T)(slot:Slot T name id)(SY:typeOf (.builtin id)=pure (.type "method_descriptor"))(hm:MtR X id r)(ho:PE X o to)(ML:autoParam (attributeBase o name X.env (eval o X.env)=eval o X.env) ŕ)(MI:autoParam ((apos.endLine==Jg.line)=true) ŕ):PE X (.Call (.Attribute o name apos) [] [] Jg) (UN X.K T r to):=by intro ñ s σ H Q I h;refine wpAny_Call_method0_late ML MI (Iz (ho _ s σ H _ I h) λv s1 gR=>?_);obtain⟨x,H1,I1,r1,ty,q1⟩:=gR;obtain⟨h1,h2⟩:=Ay I1 r1 ty;exact⟨T,id,pa,slot,SY,h1,h2,Ha rfl<|PySem.evalArgs_none (hm _ s1 σ H1 x [] v [] Q I1 r1 .nil q1)⟩
theorem XC (pa:PlainAttrs T)(slot:Slot T name id)(SY:typeOf (.builtin id)=pure (.type "method_descriptor"))(hm:MtR X id r)(ho:PE X o to)(ha:PA X (e::es) t)(ML:autoParam (attributeBase o name X.env (eval o X.env)=eval o X.env) ŕ)(VQ:autoParam (((backTo Jg (starEach (e::es) X.env)).all (λx=>!x.1)&&(backToKw Jg (keywordEach [] X.env)).all (λx=>x.1.isSome)
   && decide ((e::es).length+([]:List Keyword).length+(if ([]:List Keyword).isEmpty then 0 else 1)<30))=true) ŕ)(MI:autoParam ((apos.endLine==Jg.line)=true) ŕ)(hs:autoParam (Ĕ X e es) ŕ)(Q0:autoParam ((backTo Jg (starEach es X.env)).any (·.1)=false) ŕ):
  PE X (.Call (.Attribute o name apos) (e::es) [] Jg) (Zz X.K T r to t):=by
 intro ñ s σ H Q I h;refine wpAny_Call_method_late ML VQ MI rfl (Iz (ho _ s σ H _ I h) λv s1 gR=>?_);obtain⟨x,H1,I1,r1,ty,q1⟩:=gR;obtain⟨h1,h2⟩:=Ay I1 r1 ty;refine⟨T,id,pa,slot,SY,h1,h2,?_⟩;have hA:=ha Jg _ s1 σ H1 _ I1 q1;rw[hs]at hA ⊢;refine Ha (by show (false || (backTo Jg _).any _)=false;rw[Q0] <;> rfl) (Calls.evalArgs_plain ?_);exact Iz hA λus s2 gR=>by obtain⟨vs,H2,I2,r2,q2⟩:=gR;exact hm _ s2 σ H2 x vs v us Q I2 r1 r2 q2
end
def MtM (X:Cx)(id:String)(r:V->List V->Hp->VK->Prop):Prop:=
 ∀ (ñ:ζ)(s:Ê)(σ:St)(H:Hp)(x:V)(xs:π)(v:Value)(us:θ)(Q:VK),Inv X ñ σ H s->RelV x v->Vals xs us->r x xs H Q->
  wpAny (model X.prog X.w) X.A (call (.builtin id) (v::us)) (EP X ñ σ Q) X.xe s
theorem Vals.one:∀ {x:V}{us:θ},Vals [x] us->∃ u,us=[u]/\RelV x u
 | _,_,.cons r .nil=>⟨_,rfl,r⟩
theorem Vals.zero:∀ {us:θ},Vals [] us->us=[]
 | _,.nil=>rfl
theorem Vals.dropLast (h:Vals xs us):Vals xs.dropLast us.dropLast:=by
 induction h with
 | nil=>exact .nil
 | cons r t ih=>
  cases t with
  | nil=>exact .nil
  | cons q t'=>exact .cons r ih
theorem Vals.eraseIdx:∀ {xs:π}{us:θ} (i:Nat),Vals xs us->Vals (xs.eraseIdx i) (us.eraseIdx i)
 | _,_,_,.nil=>.nil
 | _,_,0,.cons _ t=>t
 | _,_,i+1,.cons r t=>.cons r (Vals.eraseIdx i t)
theorem Vals.rep (h:Vals xs us):∀ k:Nat,Vals (List.replicate k xs).flatten (List.replicate k us).flatten
 | 0=>.nil
 | k+1=>by rw[Fx,Fx,GA,GA];exact Vals.append h (Vals.rep h k)
theorem xO (l:List α):l.eraseIdx (l.length - 1)=l.dropLast:=by
 induction l with
 | nil=>rfl
 | cons a r ih=>
  cases r with
  | nil=>rfl
  | cons b r=>
   have e:(a::b::r).length - 1=((b::r).length - 1)+1:=by have h1:(a::b::r).length=r.length+2:=rfl;have h2:(b::r).length=r.length+1:=rfl;omega
   rw[e,List.eraseIdx_cons_succ,ih];all_goals rfl
theorem qV:∀ (l:List α)(i:Nat),(l.eraseIdx i).length<=l.length
 | [],_=>DV _
 | _::_,0=>Nat.le_succ _
 | _::r,i+1=>Nat.succ_le_succ (qV r i)
theorem rD (its:θ):∀ (k:Nat)(acc:θ),
  List.foldl (λx1 x2=>x1++x2) acc.toArray (List.replicate k its.toArray)=(acc++(List.replicate k its).flatten).toArray
 | 0,acc=>by simp
 | k+1,acc=>by
  have e:acc.toArray++its.toArray=(acc++its).toArray:=by simp
  have e2:(acc++its)++(List.replicate k its).flatten=acc++(List.replicate (k+1) its).flatten:=by rw[Fx,GA,Ez]
  rw[<- e2,<- rD its k (acc++its),<- e,Fx,Gw]
theorem Inv.Vp {its:θ}(I:Inv X ñ σ H s)(hH:H l=some (.lst xs))(e:s.heap.get? l=some { cls:=.type "list",data:=.seq its.toArray n })(hf:f its.toArray=its'.toArray)(hv:Vals ys its')(hz:ys.length<=sizeLine):
  Inv X ñ σ (upd H l (.lst ys)) { s with heap:=s.heap.update l (Obj.mapSeq f),toks:=t' }:=by
 have q:=PySem.IsL.update e f;rw[hf]at q;refine I.write (by rw[hH];exact trivial) (.inl rfl) (λb' u hb hu=>(Heap.get?_update_other _ _<|Ne.symm hb).trans hu) ⟨_,q⟩ ?_;exact⟨hz,its',_,hv,q⟩
theorem Inv.Vq (I:Inv X ñ σ H s)(hv:Vals ys its)(hz:ys.length<=sizeLine):
  Inv X ñ σ (upd H s.heap.objs.size (.lst ys)) { s with heap:=s.heap.push { cls:=.type "list",data:=.seq its.toArray },toks:=t' }:=
 I.laid (λ_ _ q=>DU _ q) (DV _) ⟨hz,its,0,hv,Eb _ rfl⟩
theorem Inv.fresh (I:Inv X ñ σ H s):H s.heap.objs.size=none:=I.Iq.fresh (DV _)
theorem Inv.QK (I:Inv X ñ σ H s)(hH:H l=some (.lst xs)):xs.length<=sizeLine/\∃ (its:θ)(n:Nat),Vals xs its/\xs.length=its.length/\s.heap.get? l=some { cls:=.type "list",data:=.seq its.toArray n }:=by obtain⟨z,its,n,r,e⟩:=I.Iq l _ hH;exact⟨z,its,n,r,r.length,e⟩
theorem Bs (h:n<=sizeLine):Builtin.List.listTooLong n=false:=by exact DQ (by omega)
def yt:V->List V->Hp->VK->Prop:=λx vs H Q=>∃ l xs y,x=.ref l/\vs=[y]/\H l=some (.lst xs)/\xs.length<sizeLine/\Q .non (upd H l (.lst (xs++[y])))
theorem aO:MtM X "list.append" yt:=by
 intro ñ s σ H x vs v us Q I rx rv h;obtain⟨l,xs,y,rfl,rfl,hH,hz,q⟩:=h
 cases rx;obtain⟨u,rfl,ru⟩:=rv.one;obtain⟨z,its,n,r,hl,e⟩:=I.QK hH;refine Hz F.slot_list_append ⟨_,e,rfl⟩ F.entry_list_append (F.args_list_append_2 _ _) (PySem.list_append l _ n u (by rw[Ee];omega)) ⟨e,?_⟩;refine⟨.non,_,I.Vp hH e (by simp) (r.append<|.cons ru .nil) ?_,rfl,q⟩;rw[DT,EI];omega
def Xu:V->List V->Hp->VK->Prop:=λx vs H Q=>∃ l xs y,x=.ref l/\vs=[]/\H l=some (.lst xs)/\xs[xs.length - 1]?=some y/\Q y (upd H l (.lst xs.dropLast))
theorem Vj:MtM X "list.pop" Xu:=by
 intro ñ s σ H x vs v us Q I rx rv h;obtain⟨l,xs,y,rfl,rfl,hH,hy,q⟩:=h
 cases rx;have SX:=rv.zero;subst SX;obtain⟨z,its,n,r,hl,e⟩:=I.QK hH;obtain⟨u,hu,ru⟩:=r.get hy;have hy':its.toArray[its.toArray.size - 1]?=some u:=by show its.toArray[its.length - 1]?=some u;rw[<- FW,<- hl];exact hu
 refine Hz F.slot_list_pop ⟨_,e,rfl⟩ F.entry_list_pop (F.args_list_pop_1 _) (MeetsSeq.list_pop_last l _ n u hy' (by rw[Ee];omega)) ⟨e,?_⟩;refine⟨y,_,I.Vp hH e ?_ r.dropLast ?_,ru,q⟩
 ·rw[Ee,List.eraseIdxIfInBounds_toArray,xO]
 ·rw[List.length_dropLast];omega
def AV:V->List V->Hp->VK->Prop:=λx vs H Q=>∃ l xs i k y,x=.ref l/\vs=[.int i]/\H l=some (.lst xs)/\-(2 ^ 63)<=i/\i<2 ^ 63/\seqIndex? i xs.length=some k/\xs[k]?=some y/\Q y (upd H l (.lst (xs.eraseIdx k)))
theorem Bu:MtM X "list.pop" AV:=by
 intro ñ s σ H x vs v us Q I rx rv h;obtain⟨l,xs,i,k,y,rfl,rfl,hH,h1,h2,hk,hy,q⟩:=h
 cases rx;obtain⟨u,rfl,ru⟩:=rv.one;obtain⟨t,rfl⟩:=ru;obtain⟨z,its,n,r,hl,e⟩:=I.QK hH;obtain⟨w,hw,Oe⟩:=r.get hy;refine Hz F.slot_list_pop ⟨_,e,rfl⟩ F.entry_list_pop (F.args_list_pop_2 _ _)
  (MeetsSeq.list_pop_at l _ n i t k w (fitsIndex_both h1 h2) (by rw[Ee,<- hl];exact hk) (by rw[<- FW];exact hw) (by rw[Ee];omega)) ⟨e,?_⟩
 refine⟨y,_,I.Vp hH e ?_ (r.eraseIdx k) ?_,Oe,q⟩
 ·rw[List.eraseIdxIfInBounds_toArray]
 ·have:=qV xs k;omega
noncomputable def a1i:R2:=λx y H Q=>∃ l b xs zs,x=.ref l/\y=.ref b/\H l=some (.lst xs)/\H b=some (.lst zs)/\xs.length+zs.length<=sizeLine/\∀ p,H p=none->Q (.ref p) (upd H p (.lst (xs++zs)))
theorem Va:JT X (binaryOp .Add) a1i:=by
 intro ñ s σ H x y v u Q I rx ry h;obtain⟨l,b,xs,zs,rfl,rfl,hH,hB,hz,q⟩:=h
 cases rx
 cases ry;obtain⟨z,its,n,r,hl,e⟩:=I.QK hH;obtain⟨z2,Ma,n2,r2,OT,e2⟩:=I.QK hB;refine PySem.P.add_list e e2 ?_ (by rw[Ee,Ee];omega);have ea:its.toArray++Ma.toArray=(its++Ma).toArray:=by simp
 rw[ea];exact⟨.ref _,_,I.Vq (r.append r2) (by rw[DT];omega),rfl,q _ I.fresh⟩
noncomputable def Xt:R2:=λx y H Q=>∃ l k xs,x=.ref l/\y=.int k/\H l=some (.lst xs)/\-(2 ^ 63)<=k/\k<2 ^ 63/\xs.length * k.toNat<=sizeLine/\
 ∀ p,H p=none->Q (.ref p) (upd H p (.lst (List.replicate k.toNat xs).flatten))
theorem Db (xs:List α)(k:Nat):(List.replicate k xs).flatten.length=k * xs.length:=by
 induction k with
 | zero=>simp
 | succ k ih=>rw[Fx,GA,DT,ih,Nat.succ_mul,Nat.add_comm]
theorem l8:JT X (binaryOp .Mult) Xt:=by
 intro ñ s σ H x y v u Q I rx ry h;obtain⟨l,k,xs,rfl,rfl,hH,h1,h2,hz,q⟩:=h
 cases rx;obtain⟨t,rfl⟩:=ry;obtain⟨z,its,n,r,hl,e⟩:=I.QK hH;have hlen:its.toArray.size * k.toNat<=sizeLine:=by rw[Ee,<- hl];exact hz
 have a2x:¬ its.toArray.size * k.toNat > (2 ^ 63 - 1) / 8:=by
  have:(sizeLine)<=(2 ^ 63 - 1) / 8:=by decide
  omega
 have a2o:¬ (!Builtin.List.listFitsIndex k)=true:=by rw[fitsIndex_both h1 h2];exact Ef
 have Yt:¬ Builtin.List.listTooLong (its.toArray.size * k.toNat)=true:=by rw[Bs hlen];exact Ef
 have Ka:List.foldl (λx1 x2=>x1++x2) #[] (List.replicate (if its.toArray.isEmpty=true then 0 else k.toNat) its.toArray)=(List.replicate k.toNat its).flatten.toArray:=by
  have f0:=λm=>by have:=rD its m [];rw[EW]at this;exact this
  rw[f0]
  cases its with
  | nil=>simp
  | cons a r'=>rw[if_neg<|by simp]
 refine wpAny_binaryOp_repeat_ref (by decide) ⟨_,e,rfl⟩ (λs'=>typeIs_int s' k t) noFill_list_mul F.fills_int_mul F.slot_int_rmul repeat_list F.slot_int_index.lookup
  (Hz F.slot_int_rmul (typeIs_int s k t) F.entry_int_rmul (F.args_int_rmul_2 _ _) (int___rmul___int_list k t l its.toArray n)
   ⟨e,rfl,⟨_,e,rfl⟩,Hz F.slot_list_mul ⟨_,e,rfl⟩ F.entry_list_mul (F.args_list_mul_2 _ _) (AutoListH.list___mul___list_int_3 l its.toArray n k t a2o a2x Yt) ⟨e,?_⟩⟩)
 rw[Ka];exact⟨.ref _,_,I.Vq (r.rep k.toNat) (by rw[Db,Nat.mul_comm];exact hz),rfl,q _ I.fresh⟩
end L2
namespace Att
open PySem PySem.W PySem.Calls PyProof.Rows
abbrev _root_.Ξ:=List Int
theorem mI:∀ (ns:Ξ)(vs:θ),WellAll P h vs (ns.map WData.int)->IntsAre vs ns:=by
 intro ns
 induction ns with
 | nil=>
  intro vs w
  cases w;exact .nil
 | cons n ns ih=>
  intro vs w
  cases w with
  | cons a b=>
   cases a;exact .cons _ _ (ih _ b)
theorem zp {l:OpenLaw}(hn:l.most=some n)(T3:l.row.toRowW.claim.pre args=true)(hwl:WellAll P h vals args):
  ∃ a vs ns,vals=[Value.ref a]/\args=[WData.list (ns.map WData.int)]/\h.get? a=some { cls:=.type "list",data:=.seq vs.toArray }/\IntsAre vs ns/\ns.length<=n:=by
 have hsh:=(pre_splitW T3).1;have hc:=(pre_splitW T3).2;obtain⟨d,r,rfl,h1,h2⟩:=hasAllW_cons hsh;obtain rfl:=hasAllW_nil h2;obtain⟨xs,rfl,h3⟩:=hasW_list h1;obtain⟨ns,rfl⟩:=items_int h3;have hlen:ns.length<=n:=by
  have h4:(WTm.not<|.lt (.lit<|.int (n)) (.len<|.arg 0)).holds [] { args:=[.list<|ns.map .int] }=true:=by have h4:=(holds_andW hc).1;rw[hn]at h4;exact h4
  have h5:=condW_of h4<|w_not (w_lt w_lit<|w_len_list (w_arg rfl));refine Nat.le_of_not_lt λq=>?_
  first
   | (exact absurd h5<|by decide)
   | (simp at h5;omega)
 cases hwl with
 | cons w1 w2=>
  cases w2
  cases w1 with
  | list ho QV=>exact⟨_,_,ns,rfl,rfl,ho,mI ns _ QV,hlen⟩
theorem zy (l:OpenLaw)(args:List WData):l.row.toRowW.claim.post args (.bool true) args=true:=
 postW_of
  (show WShape.has [] _ .bool=true by first|rfl|decide|simp)
  (w_eq_bool (w_res rfl) w_lit) rfl
theorem PB {l:OpenLaw}(hn:l.most=some n)(YA:d.params.defaults=[])(call:∀ (w:World)(s₀ s₁:Ê)(mg mb:Ω)(fa:Addr)(o:Obj)(pm cd doc:Value)(a:Addr)(vs:θ)(ns:Ξ),
   Ground q loose [] XP w s₀ mg mb s₁.heap->YP w s₁.heap->
   s₁.heap.get? fa=some o->o.data=.func (docDef d.name d.params d.body d.scope pm cd doc)->s₁.heap.CodeRec cd d.name->mg d.name=some (.ref fa)->
   s₁.heap.get? a=some { cls:=.type "list",data:=.seq vs.toArray }->IntsAre vs ns->ns.length<=n->s₁.gens=#[]->
   codeAny (model l.prog w) callerA (.call (.ref fa) ⟨[.ref a],[]⟩) (λr s'=>r=.ok (.ret (.bool true))/\OldK s₁.heap s'.heap/\s'.os=s₁.os/\AllBare s'.gens) s₁):
  WalkO q loose XP YP l.row.toRowW d [] (λf vs=>PySem.call f vs):=by
 intro w s₀ s₁ mg mb G Y fa o pm cd doc dV kV ho hd Qv hD hmg hg _ _ as T3 a6F WC hwl T5;obtain rfl:dV=.none:=Dflts.none hD YA;obtain rfl:kV=.none:=Dflts.noKw hD;obtain⟨a,vs,ns,rfl,rfl,VJ,hints,hlen⟩:=zp hn T3 hwl;refine enter_call (codeAny_mono (call w s₀ s₁ mg mb fa o pm cd doc a vs ns G Y ho (fd_plain hd) Qv hmg VJ hints hlen hg) λr s' hq=>?_);obtain⟨rfl,h2,h3,h4⟩:=hq;exact⟨.inl ⟨.bool true,.bool true,[],rfl,λ_=>rfl,.bool true,zy l _,λ_=>⟨List.Pairwise.nil,λ_ hm=>nomatch hm⟩⟩,h2,h3,h4⟩
end Att
namespace L2
open PySem PySem.Spec PyProof.Rows
theorem qh:∀ {vs:θ}{ns:Ξ},IntsAre vs ns->Vals (ns.map V.int) vs
 | _,_,.nil=>.nil
 | _,_,.cons n t h=>.cons ⟨t,rfl⟩ (qh h)
def Wo (H:Hp):Prop:=∀ b,H b=none\/∃ o xs,H b=some (.frz o (.lst xs))
abbrev _root_.Ñ:=Array DictEntry
theorem BB {K:Ψ}(KX:K.In s₁.heap)(hns:s₁.heap.Ns mainGlobals mg)(hb:s₁.heap.Ns builtinsNs mb)(hbb:∀ x:Str,x≠"__name__"->mb x=bootBuiltins x)(a2g:s₁.heap.NoLimit)(hg:s₁.gens=#[])(ha:s₁.heap.get? a=some { cls:=.type "list",data:=.seq vs.toArray })(hi:IntsAre vs ns)(hl:ns.length<=sizeLine)(hr:IA k callerA)(F:∀ base:Heap,K.In base->base.Ns mainGlobals mg->HP P w K mg base CX k fa fd [x] sp)(YD:∀ (s:Ê)(u:Value),BindsTo s fd ⟨[u],[]⟩ [(x,u)])(Se:∀ H:Hp,Wo H->Il K H a (ns.map V.int)->sp [.ref a] H (λv _=>v=.bl true) λ_ _ _=>False)(YL:∀ H e s',CX [] H s₁ (λ_ _ _=>False) e s'->False):
  codeAny (model P w) callerA (.call (.ref fa) ⟨[.ref a],[]⟩) (λr s'=>r=.ok (.ret (.bool true))/\OldK s₁.heap s'.heap/\s'.os=s₁.os/\AllBare s'.gens) s₁:=by
 have rv:=qh hi;have a1E:=hi.length;have core:∀ H,Wo H->Il K H a (ns.map V.int)->Mf P w H s₁.heap->(∀ b,H b≠none->b=a)->(H a≠none->K.lookup a=none)->
   codeAny (model P w) callerA (.call (.ref fa) ⟨[.ref a],[]⟩) (λr s'=>r=.ok (.ret<|.bool true)/\OldK s₁.heap s'.heap/\s'.os=s₁.os/\AllBare s'.gens) s₁:=by
  intro H hO hS Iq hA hK;have Qx:∀ {b:Addr}{o:Obj},s₁.heap.get? b=some o->H b=none->(tZ _ H).get? b=some o:=λe n=>BI e n;have XQ:∀ {b:Addr}{o:Obj}{es:Ñ}{ep:Nat},s₁.heap.get? b=some o->o.data=.dict es ep->H b=none:=λ{b o es ep} e d=>by
   cases q:H b with
   | none=>rfl
   | some u=>
    have e':=hA b (by rw[q];simp);subst e';rw[ha]at e;cases e;have d':=d
    cases d'
  have ZL:∀ {b:Addr}{m:Ω},s₁.heap.Ns b m->(tZ _ H).Ns b m:=λ{b m} gR=>by obtain⟨o,es,ep,e,d,r⟩:=gR;exact⟨o,es,ep,Qx e<|XQ e d,d,r⟩
  have hKb:=λb o e=>Qx (KX b o e) (by
   cases q:H b with
   | none=>rfl
   | some u=>
    have e':=hA b (by rw[q];simp);subst e';rw[hK (by rw[q];simp)]at e;cases e)
  have hM:Mod K mg _:=⟨hKb,ZL hns,⟨mb,ZL hb,hbb⟩,let ⟨mc,h1,h2⟩:=a2g;⟨mc,ZL h1,h2⟩⟩
  have e0:Qb P w K mg _ callerA [] s₁ H:=⟨rfl,hM,λb o e=>D7 e,Nat.le_of_eq<|zY _ _,trivial,λb hb=>absurd (show b∈([]) from hb)<|by simp,Iq,.of_eq hg⟩
  refine codeAny_mono ((F _ hKb<|ZL hns).run _ [] s₁ H ⟨[.ref a],[]⟩ [.ref a] [.ref a] _ _ hr e0 (YD s₁ _) (.cons rfl .nil)<|Se H hO hS) λr s' h=>?_
  cases r with
  | error e=>exact (YL H e s' h).elim
  | ok fl=>
   cases fl with
   | next=>exact False.elim h
   | brk=>exact False.elim h
   | cont=>exact False.elim h
   | ret u=>
    obtain⟨v,H',os,bare,un,a18,r',q⟩:=h;have q':=q;subst q';obtain rfl:u=Value.bool true:=r';refine⟨rfl,OldK.of_keep λb o e=>?_,os,bare⟩
    cases q:H b with
    | none=>exact un.keep b o e q (by intro z;exact absurd (show b∈([]) from z)<|by simp) (by simp)
    | some u=>
     rcases hO b with z|⟨ob,xs,z⟩
     ·rw[q]at z;cases z
     ·have z2:=un.O0 b ob _ z;obtain⟨e1,_⟩:=Iq b _ z;obtain⟨e2,_⟩:=a18 b _ z2;rw[e]at e1;cases e1;exact e2
 cases hk:K.lookup a with
 | some o=>
  have e:=KX a o hk;rw[ha]at e
  cases e;refine core (λ_=>none) (λ_=>.inl rfl) (.inr ⟨_,vs.toArray,_,hk,rfl,rfl,rfl,by rw[Ee,a1E];exact hl,by simpa using rv⟩) (λb u z=>by have z':=z;cases z') (λb z=>absurd rfl z) λz=>absurd rfl z
 | none=>
  refine core (λb=>if b=a then some _ else none) (λb=>?_) (.inl<|.inr ⟨{ cls:=.type "list",data:=.seq vs.toArray },if_pos rfl⟩) (λb u z=>?_) (λb z=>?_) λ_=>hk
  ·by_cases hb:b=a
   ·exact .inr ⟨_,_,if_pos hb⟩
   ·exact .inl (if_neg hb)
  ·by_cases hb:b=a
   ·have z':=(if_pos hb).symm.trans z
    cases z';subst hb;exact⟨ha,by rw[DH];exact hl,vs,_,rv,ha⟩
   ·have z':=(if_neg hb).symm.trans z
    cases z'
  ·by_cases hb:b=a
   ·exact hb
   ·exact absurd (if_neg hb) z
theorem SD {l:W.OpenLaw}{K:Params->Ψ}{CX:World->S7}{sp:World->Sp}(hn:l.most=some n)(hn2:n<=sizeLine)(YA:d.params.defaults=[])(hr:IA k callerA)(hY:∀ (w:World)(h:Heap),YP w h->(K w.params).In h)(F:∀ (w:World)(mg:Ω)(fa:Addr)(h:Heap),(K w.params).In h->h.Ns mainGlobals mg->mg d.name=some (.ref fa)->
   ∃ fd:È,(∀ (s:Ê)(u:Value),BindsTo s fd ⟨[u],[]⟩ [(x,u)])/\
    ∀ base:Heap,(K w.params).In base->base.Ns mainGlobals mg->HP l.prog w (K w.params) mg base (CX w) k fa fd [x] (sp w))(Se:∀ (w:World)(H:Hp)(a:Addr)(ns:Ξ),ns.length<=n->Wo H->Il (K w.params) H a (ns.map V.int)->sp w [.ref a] H (λv _=>v=.bl true) λ_ _ _=>False)(YL:∀ (w:World)(H:Hp)(s:Ê)(e:Value)(s':Ê),CX w [] H s (λ_ _ _=>False) e s'->False):
  W.WalkO q loose XP YP l.row.toRowW d [] (λf vs=>PySem.call f vs):=by
 refine Att.PB hn YA λw s₀ s₁ mg mb fa o pm cd doc a vs ns G Y ho hd Qv hmg VJ hints hlen hg=>?_;have KX:=hY w _ Y;obtain⟨fd,hb,hF⟩:=F w mg fa _ KX G.T.g hmg;exact BB KX G.T.g G.T.b G.T.builtins G.T.nolimit hg VJ hints (Ei hlen hn2) hr hF hb (λH hO hS=>Se w H a ns hlen hO hS) λH e s'=>YL w H s₁ e s'
noncomputable def aF (s:Stmt)(j:Nat):Stmt:=match s with
 | .ClassDef _ _ _ body _ _ _ _ _ _ _=>body.getD j (.Pass ⟨0,0,0,0⟩)
 | _=>.Pass ⟨0,0,0,0⟩
noncomputable def aT (s:Stmt):Arguments:=match s with
 | .FunctionDef _ a _ _ _ _ _ _ _ _=>a
 | _=>{ posonlyargs:=[],args:=[],vararg:=none,kwonlyargs:=[],kw_defaults:=[],kwarg:=none,defaults:=[] }
noncomputable def aH (s:Stmt):List Stmt:=match s with
 | .FunctionDef _ _ b _ _ _ _ _ _ _=>b
 | _=>[]
noncomputable def a8 (s:Stmt):Scope:=match s with
 | .FunctionDef _ _ _ _ _ _ sc _ _ _=>sc
 | _=>{ kind:=.function,names:=[],isGenerator:=false,isCoroutine:=false }
noncomputable abbrev Ik:S7:=λ_ _ _ _ _ _=>False
noncomputable abbrev E0:XK:=λ_ _ _=>False
theorem lP:iG Ik X E0:=λ_ _ _ _ _ _ _ h=>h.elim
abbrev _root_.ω:=Array (Option Value)
abbrev _root_.ψ:=Option Addr
structure Iy (K:Ψ) (x ğ:Str) (st:Stmt) (f:Addr) (fd:È):Prop where
 ex:∃ (oc:Value)(od:ψ)(kV doc pm:Value)(an:ψ)(HU ct:Value)(Kv:ω),
  fd=W.fnOf x ğ (aT st) (aH st) (a8 st) .none kV doc pm an HU ct/\K.lookup f=some ⟨oc,od,.func fd,Kv⟩/\W.codeIn K HU ğ=true
 kp:W.keepIn K (.ref f)=true
section
variable {K:Ψ}
theorem Iy.ok {st:Stmt}{k:Nat}(F:Iy K x ğ st f fd)(S:ae N ps (a8 st))(len:∀ vs H Q E,sp vs H Q E->vs.length=ps.length)(MK:∀ (HU:Value)(A:Ë)(outer:List Env)(s:Ê)(H:Hp)(vs:π)(Q:VK)(E:XK),IA k (A.deeper (envOfC ğ (a8 st) s.heap.objs.size f HU))->sp vs H Q E->
   ∃ t,N6 (mN Ik P w K mg base N ğ (a8 st) f HU A outer s H E).QH (aH st) t/\t { nx:=λ_ H'=>Q .non H',rt:=Q } (start N vs) H):HP P w K mg base Ik (k+1) f fd ps sp:=by
 obtain⟨oc,od,kV,doc,pm,an,HU,ct,Kv,rfl,lk,Qv⟩:=F.ex;refine Uq lk Qv S len λA outer s H vs Q E hr Se=>?_;obtain⟨t,h,q⟩:=MK HU A _ s H vs Q E hr Se;exact⟨t,h.QH,q⟩
theorem Iy.binds {st:Stmt}(F:Iy K x ğ st f fd)(h:∀ (kV doc pm:Value)(an:ψ)(HU ct:Value)(us:θ),us.length=ps.length->bindArgs (W.fnOf x ğ (aT st) (aH st) (a8 st) .none kV doc pm an HU ct) ⟨us,[]⟩=pure (ps.zip us)):Binds K fd ps []:=by obtain⟨oc,od,kV,doc,pm,an,HU,ct,Kv,rfl,lk,Qv⟩:=F.ex;exact .all (h kV doc pm an HU ct)
theorem xL {st:Stmt}{kV:Value}(l:K.lookup f=some ⟨oc,od,.func (W.fnOf x ğ (aT st) (aH st) (a8 st) .none kV doc pm an HU ct),Kv⟩)(c:W.codeIn K HU ğ=true)(k:W.keepIn K (.ref f)=true):Iy K x ğ st f (W.fnOf x ğ (aT st) (aH st) (a8 st) .none kV doc pm an HU ct):=⟨⟨oc,od,kV,doc,pm,an,HU,ct,Kv,rfl,l,c⟩,k⟩
end
theorem ao (hr:IA k A):A.units+1<cLine:=HA (Nat.add_le_add_left (by decide:1<=64) _) hr.units
theorem pv (i:Nat)(hN:autoParam (X.N[i]?=some x) ŕ)(hv:WV X.env.scope x:=by first|exact Or.inl rfl|exact Or.inr (Or.inl rfl)|exact Or.inr (Or.inr rfl))(hd:autoParam (Ė x) ĩ)(Qv:autoParam ((x==("__classdict__":Str))=false) ĩ):PE X (.Name x pos) (sn i):=V5 hN hv hd Qv
theorem vM {A:Prop}(h:B):if false=true then A else B:=by rw[if_neg Ef];exact h
theorem BF {A:Prop}(h:A):if true=true then A else B:=by rw[if_pos rfl];exact h
theorem mH {A:Prop}[Decidable c](h1:c->A)(h2:¬ c->B):if c then A else B:=by
 by_cases h:c
 ·rw[if_pos h];exact h1 h
 ·rw[if_neg h];exact h2 h
theorem Y3 {A:Prop}[Decidable c](hc:c)(h:B):if (!decide c)=true then A else B:=by rw[DM hc];exact vM h
def f' (H H':Hp):Prop:=∀ b o,H b=some o->H' b=some o
theorem f'.refl (H:Hp):f' H H:=λ_ _ h=>h
theorem f'.trans (a:f' H H1)(b:f' H1 H2):f' H H2:=λc o h=>b c o (a c o h)
theorem f'.free (e:f' H H')(h:H' l=Option.none):H l=Option.none:=by
 cases q:H l with
 | none=>rfl
 | some o=>
  rw[e l o q]at h
  cases h
noncomputable def Zr (K:Ψ)(a b:Addr):It:=
 ⟨λi H=>∃ xs ys x y,Il K H a xs/\Il K H b ys/\xs[i]?=some x/\ys[i]?=some y,
  λi H v H'=>∃ T,H T=none/\v=.ref T/\∃ x y,(∀ xs,Il K H a xs->xs[i]?=some x)/\(∀ ys,Il K H b ys->ys[i]?=some y)/\H'=upd H T (.tup [x,y]),
  λi H=>∃ xs ys,Il K H a xs/\Il K H b ys/\(xs.length<=i\/ys.length<=i)⟩
theorem Inv.Nz {ch:υ}(I:Inv X ñ σ H s)(hf:∀ b∈ch,lI X ñ H b)(k:∀ b o,b∉ch->s.heap.get? b=some o->h'.get? b=some o):Inv X ñ σ H { s with heap:=h',toks:=t' }:=by
 refine I.step (λb hb=>⟨(hf b hb).2.2.2.1,(hf b hb).2.1,(hf b hb).2.2.2.2.1,(hf b hb).2.2.2.2.2⟩) (λb o _ _ hc e _=>k b o hc e) (λb o _ _ hc e _=>⟨o.slots,k b o hc e⟩) (λ_ _ _ _ n=>n)
  (λb o hc e=>⟨o,k b o hc e⟩) (λ_ _ e=>e) (λ_ _ _ e=>e) (λb ps e=>⟨#[],by rw[e];simp⟩) (λm hm=>?_) (λb u e=>?_) I.bare
 ·obtain⟨o,es,ep,ho,r⟩:=hm;exact⟨o,es,ep,k _ o (λz=>(hf _ z).2.1 rfl) ho,r⟩
 ·refine (I.Iq b u e).JM (λc v hc q=>k c v (λz=>?_) q) (λ_ q=>q) λ_ _ q=>q;have n:=(hf c z).1;rcases hc with w|w
  ·rw[w,e]at n;cases n
  ·rw[w]at n;cases n
theorem Inv.Tx (I:Inv X ñ σ H s)(hf:lI X ñ H T)(hs:X.s₀.heap.objs.size<=T)(new:Im X.prog X.w (upd H T o) s.heap T o):Inv X ñ σ (upd H T o) s:=by
 have hn:=hf.1;have:=I.step (H':=upd H T o) (d':=s.drawn) (t':=s.toks) (ch:=[T]) (λb hb=>by
   have e:b=T:=by simpa using hb
   subst e;exact⟨.inr hs,hf.2.1,hf.2.2.2.2.1,hf.2.2.2.2.2⟩) (λb o _ _ _ e _=>e) (λb o _ _ _ e _=>⟨o.slots,e⟩) (λb o hb _ n=>by rw[ab<|by simpa using hb];exact n)
  (λb o _ e=>⟨o,e⟩) (λb xs e=>by rw[ab<|aq e hn];exact e) (λb ob xs e=>by rw[ab<|aq e hn];exact e) (λb ps e=>⟨#[],by rw[ab<|aq e hn,e];simp⟩) (λm hm=>hm)
  (λb u e=>by
   by_cases hb:b=T
   ·subst hb;rw[ag]at e;cases e;exact new
   ·rw[ab hb]at e;exact (I.Iq b u e).JM (λc v _ q=>q) (λc q=>by rw[ab<|aq q hn];exact q) λc xs q=>by rw[ab<|aq q hn];exact q) I.bare
 exact this
theorem dg (I:Inv X ñ σ H s)(h:Il X.K H a xs)(hf:lI X ñ H b):a≠b:=by
 rintro rfl;rcases h with (h|⟨o,h⟩)|⟨o,its,n,hk,_⟩
 ·rw[hf.1]at h;cases h
 ·rw[hf.1]at h;cases h
 ·have e:=I.ok.mod.Wz a o hk;rcases hf.2.2.2.1 with z|z
  ·exact I.ok.QJ a o e z
  ·exact absurd (Ey (E8 e)<|Ei I.ok.Sx z) (Fc _)
def X6 (z TI TO i1 i2 a b:Addr)(i:Nat)(h:Heap):Prop:=IsZip h z TI TO .none/\IsPair h TI (.ref i1) (.ref i2)/\(∃ u v,IsPair h TO u v)/\h.IsListIter i1 a i/\h.IsListIter i2 b i
structure Zk (z TI TO i1 i2:Addr):Prop where
 TIz:TI≠z
 TOz:TO≠z
 i1z:i1≠z
 i2z:i2≠z
 TITO:TI≠TO
 TIi1:TI≠i1
 TIi2:TI≠i2
 TOi1:TO≠i1
 TOi2:TO≠i2
 i12:i1≠i2
theorem Az {P:É}{w:World}{K:Ψ}{elts:Ì}{x1:Nat}{Mo:Pos} (a b z TI TO i1 i2:Addr) (D:Zk z TI TO i1 i2):
  wD P w K (.Tuple elts x1 Mo) (Zr K a b) [z,TI,TO,i1,i2] z (X6 z TI TO i1 i2 a b) where
 mem:=by simp
 obj:=λi h st c hc=>by
  obtain⟨h1,h2,⟨u,v,h3⟩,⟨o4,e4,c4,d4⟩,⟨o5,e5,c5,d5⟩⟩:=st;simp only[E3,EJ,Hg]at hc;rcases hc with rfl|rfl|rfl|rfl|rfl
  ·exact⟨_,h1,λv z=>by cases z⟩
  ·exact⟨_,h2,λv z=>by cases z⟩
  ·exact⟨_,h3,λv z=>by cases z⟩
  ·exact⟨_,e4,λv z=>by rw[d4]at z;cases z⟩
  ·exact⟨_,e5,λv z=>by rw[d5]at z;cases z⟩
 keep:=λi h h' st k=>by obtain⟨h1,h2,⟨u,v,h3⟩,h4,h5⟩:=st;exact⟨k z (by simp) _ h1,k TI (by simp) _ h2,⟨u,v,k TO (by simp) _ h3⟩,h4.at λo e=>k i1 (by simp) o e,h5.at λo e=>k i2 (by simp) o e⟩
 item:=by
  intro X hP hw hK hc i ñ s σ H E I hf st hg;subst hP hw hK;obtain⟨xs,ys,x,y,hx,hy,ex,ey⟩:=hg;obtain⟨h1,h2,⟨u,v,h3⟩,h4,h5⟩:=st;obtain⟨its,rv,p,hz⟩:=I.list hx;obtain⟨Ma,TM,p2,Qr⟩:=I.list hy;obtain⟨w1,ew1,r1⟩:=rv.get ex;obtain⟨w2,ew2,r2⟩:=TM.get ey;have ap:ZipApart z TI TO i1 i2 a b:=⟨D.TIz,D.TOz,D.i1z,D.i2z,D.TITO,D.TIi1,D.TIi2,D.TOi1,D.TOi2,D.i12,
   dg I hx (hf z<|by simp),dg I hx<|hf TO (by simp),dg I hx<|hf i1 (by simp),dg I hx<|hf i2 (by simp),dg I hy<|hf z (by simp),dg I hy<|hf TO (by simp),dg I hy<|hf i1 (by simp),dg I hy<|hf i2 (by simp)⟩
  refine wpAny_pyNext_zip_item ap h1 h2 h3 h4 h5 p.isList p2.isList (by simpa using ew1) (by simpa using ew2) λh' a1 a2 a3 a4 a5 a6 a7=>?_;refine⟨_,rfl,wpAny_letOwnedTupleGo_zip a1 λUo b1 sb=>?_⟩;have hT:=I.Iq.fresh<|DV _;have WZ:∀ c∈[z,TI,TO,i1,i2],c≠s.heap.objs.size:=λc hc e=>by
   have:∃ o,s.heap.get? c=some o:=by
    simp only[E3,EJ,Hg]at hc;obtain⟨o4,e4,_⟩:=h4;obtain⟨o5,e5,_⟩:=h5;rcases hc with rfl|rfl|rfl|rfl|rfl
    ·exact⟨_,h1⟩
    ·exact⟨_,h2⟩
    ·exact⟨_,h3⟩
    ·exact⟨_,e4⟩
    ·exact⟨_,e5⟩
   obtain⟨o,q⟩:=this;exact absurd (E8 q) (by rw[e];exact Fc _)
  have kk:∀ c o,c∉[z,TI,TO,i1,i2]->s.heap.get? c=some o->Uo.get? c=some o:=λc o hc e=>by simp only[E3,EJ,Hg,not_or]at hc;exact sb.extBut _ _ hc.1 (a7 c o hc.1 hc.2.2.1 hc.2.2.2.1 hc.2.2.2.2 e)
  have I1:=I.Nz (t':=s.toks) hf kk;have I2:Inv X ñ σ (upd H s.heap.objs.size<|.tup [x,y]) { s with heap:=Uo }:=by refine I1.Tx (I.OW (DV _) hT) I.sz ⟨by show 2<=sizeLine;decide,[w1,w2],.cons r1<|.cons r2 .nil,?_⟩;exact⟨_,sb.extBut _ _ (Ne.symm<|WZ z (by simp)) a5,rfl,_,rfl⟩
  refine⟨.ref _,_,I2,rfl,⟨_,hT,rfl,x,y,λxs' QO=>by rw[I.MG QO hx];exact ex,λys' hy'=>by rw[I.MG hy' hy];exact ey,rfl⟩,?_,λc hc=>?_⟩
  ·exact⟨b1,sb.extBut _ _ D.TIz<|a7 TI _ D.TIz D.TITO D.TIi1 D.TIi2 h2,⟨_,_,sb.extBut _ _ D.TOz a2⟩,a3.extBut sb.extBut D.i1z,a4.extBut sb.extBut D.i2z⟩
  ·rw[ab<|WZ c hc];exact (hf c hc).1
 done:=by
  intro X hP hw hK hc i ñ s σ H E I hf st hg;subst hP hw hK;obtain⟨xs,ys,hx,hy,hl⟩:=hg;obtain⟨h1,h2,⟨u,v,h3⟩,h4,h5⟩:=st;obtain⟨its,rv,p,hz⟩:=I.list hx;obtain⟨Ma,TM,p2,Qr⟩:=I.list hy;have l1:=rv.length;have l2:=TM.length;have ap:ZipApart z TI TO i1 i2 a b:=⟨D.TIz,D.TOz,D.i1z,D.i2z,D.TITO,D.TIi1,D.TIi2,D.TOi1,D.TOi2,D.i12,
   dg I hx (hf z<|by simp),dg I hx<|hf TO (by simp),dg I hx<|hf i1 (by simp),dg I hx<|hf i2 (by simp),dg I hy<|hf z (by simp),dg I hy<|hf TO (by simp),dg I hy<|hf i1 (by simp),dg I hy<|hf i2 (by simp)⟩
  refine wpAny_pyNext_zip_end (I.ok.hd hc) ap h1 h2 h3 h4 h5 p.isList p2.isList ?_ λh' kk=>⟨rfl,I.Nz hf λc o hc e=>?_⟩
  ·rcases hl with q|q
   ·exact .inl (by simp;omega)
   ·exact .inr (by simp;omega)
  ·simp only[E3,EJ,Hg,not_or]at hc;exact kk c o hc.1 hc.2.2.1 hc.2.2.2.1 hc.2.2.2.2 e
 self:=λ_ _ _ _ _ st h=>wpAny_pyIter_zip st.1 h
theorem wx:bootBuiltins "zip"=some (.type "zip"):=by decide +kernel
noncomputable def Y5 (K:Ψ)(ta:TA):TI:=λσ H R=>ta σ H λvs H1=>∃ a b,vs=[.ref a,.ref b]/\(∃ xs,Il K H1 a xs)/\(∃ ys,Il K H1 b ys)/\R (Zr K a b) H1
theorem B4 (hg:Gl X "zip")(hm:X.mg "zip"=none)(ha:PA X [e1,e2] ta)(hs:autoParam (starEach [e1,e2] X.env=[(false,eval e1 X.env),(false,eval e2 X.env)]) ŕ)(OR:autoParam (starEach [e2] X.env=[(false,eval e2 X.env)]) ŕ):
  PI X (.Tuple elts x1 Mo) (.Call (.Name "zip" p) [e1,e2] [] pos) (Y5 X.K ta):=by
 intro ñ s σ H R I h;refine Call_<|gx I hg hm wx (F7 (Iz (ha pos _ s σ H _ I h) λus s1 gR=>?_) (by rw[hs,OR]) (by rw[OR];rfl));obtain⟨vs,H1,I1,r1,q1⟩:=gR;obtain⟨a,b,e,⟨xs,hx⟩,⟨ys,hy⟩,q⟩:=q1;subst e
 cases r1 with
 | cons r rr=>
  cases rr with
  | cons r' rr=>
   cases rr
   cases r
   cases r';obtain⟨its,rv,p1,hz⟩:=I1.list hx;obtain⟨Ma,TM,p2,Qr⟩:=I1.list hy;refine call_zip_2 p1.isList p2.isList λh' a1 a2 a3 a4 a5 a6 a7=>?_;refine wpAny_pyIter_zip a1 ?_;have I2:Inv X _ σ H1 { s1 with heap:=h' }:=I1.kept a7;refine⟨_,[s1.heap.objs.size+4,s1.heap.objs.size+2,s1.heap.objs.size+3,s1.heap.objs.size,s1.heap.objs.size+1],_,_,H1,rfl,I2,Az a b _ _ _ _ _ ⟨?_,?_,?_,?_,?_,?_,?_,?_,?_,?_⟩,⟨a1,a2,⟨_,_,a3⟩,a4,a5⟩,λc hc=>?_,q⟩;all_goals try (intro z;have z':@Eq Nat _ _:=z;omega)
   have le:@LE.le Nat _ s1.heap.objs.size c:=by simp only[E3,EJ,Hg]at hc;rcases hc with rfl|rfl|rfl|rfl|rfl <;> omega
   have:=I1.OW le<|I1.Iq.fresh le;exact this
theorem u6 {K:Φ}{g:TG}{tb:TS}{D:d8}(Pv:Nat->Υ)(h0:Pv 0 σ H)(hl:∀ i σ H,i<=min xs.length ys.length->Pv i σ H->Il K H a xs/\Il K H b ys)(hs:∀ i x y T σ H,xs[i]?=some x->ys[i]?=some y->Pv i σ H->H T=none->g (.ref T) σ (upd H T (.tup [x,y])) λσ2 H2=>tb { D with nx:=Pv (i+1),ct:=Pv (i+1),bk:=D.nx } σ2 H2)(hd:∀ σ H,Pv (min xs.length ys.length) σ H->D.nx σ H):
  ∃ W:Nat->Nat->Υ,(∃ m,W 0 m σ H)/\∀ i m σ H,W i m σ H->
   ((Zr K a b).stop i H/\D.nx σ H)\/((Zr K a b).go i H/\∃ N:Υ,(∀ σ' H',N σ' H'->∃ m',m'<m/\W (i+1) m' σ' H')/\∀ x H',(Zr K a b).S9 i H x H'->g x σ H' λσ2 H2=>tb { D with nx:=N,ct:=N,bk:=D.nx } σ2 H2):=by
 refine⟨λi m σ H=>m=min xs.length ys.length - i/\i<=min xs.length ys.length/\Pv i σ H,⟨_,rfl,EE _,h0⟩,?_⟩;rintro i m σ H ⟨rfl,hi,p⟩;obtain⟨q1,q2⟩:=hl i σ H hi p;by_cases Kb:i<min xs.length ys.length
 ·refine .inr ⟨⟨xs,ys,xs[i],ys[i],q1,q2,by simp,by simp⟩,Pv _,λσ' H' p'=>⟨_,?_,rfl,Kb,p'⟩,λx H' yl=>?_⟩
  ·omega
  ·obtain⟨T,hT,rfl,x,y,ex,ey,rfl⟩:=yl;exact hs i x y T σ H (ex xs q1) (ey ys q2) p hT
 ·have e:i=min xs.length ys.length:=by omega
  subst e;exact .inl ⟨⟨xs,ys,q1,q2,by omega⟩,hd σ H p⟩
abbrev U7:ρ:=λ_ _=>False
theorem ua (I:Nat->Shared->Prop)(turn:∀ n s,I n s->wpAny (model prog w) A (pyNext it) (λr s₁=>match r with
   | none=>R (.ok .next) s₁
   | some v=>wpAny (model prog w) A (letOwnedTupleGo target it v) (λ_ s₂=>wpAny (model prog w) A (assign target env v) (λ_ s₃=>
     wpAny (model prog w) A (forIn ifs true λc r=>if r=true then do let ok <- isTrue c env (eval c env);pure (ForInStep.yield ok) else pure (ForInStep.yield r)) (λok s₄=>
      if ok=true then wpAny (model prog w) A (eval elt env) (λx s₅=>wpAny (model prog w) A (call (.builtin "list.append") [acc,x]) (λ_ s₆=>∃ m,m<n/\I m s₆) U7 s₅) U7 s₄
      else ∃ m,m<n/\I m s₄) U7 s₃) U7 s₂) U7 s₁) U7 s)(n:Nat)(h:I n s):codeAny (model prog w) A (.compLoop (.ListComp elt [⟨target,iter,ifs,0⟩] scope pos) 0 it acc env) R s:=by
 refine codeAny_loop rfl I (λn s hI=>?_) n h;refine wpAny_noted ?_;refine DK (wpAny_standAt<|DK (FJ (turn n s hI) (λr s₁ h₁=>?_) λ_ _ h'=>h'.elim))
 cases r with
 | none=>exact DW h₁
 | some v=>
  refine DK (FJ h₁ (λ_ s₂ h₂=>?_) λ_ _ h'=>h'.elim);refine DK (FJ h₂ (λ_ s₃ h₃=>DK<|FJ h₃ (λok s₄ h₄=>?_) λ_ _ h'=>h'.elim) λ_ _ h'=>h'.elim)
  cases ok with
  | false=>exact DW ⟨rfl,h₄⟩
  | true=>
   exact DK (DK<|FJ h₄ (λx s₅ h₅=>DK<|FJ h₅ (λ_ s₆ h₆=>DW<|DW ⟨rfl,h₆⟩) λ_ _ h'=>h'.elim) λ_ _ h'=>h'.elim)
theorem vy (h:Q (newEnv scope s.heap.objs.size globals (cellsFrom (s.heap.objs.size+1) scope.names cl) ğ none .none (some env) builtinsNs) { s with heap:=pushCells (s.heap.push { cls:=.type "dict",data:=.dict #[] }) scope.names }):
  wpAny M A (newFunctionEnv scope globals cl [] ğ none .none (some env)) Q E s:=by
 refine DK (wpAny_alloc ?_);refine DK (wpAny_layCells _ (λname kind cells=>by cases hkc:kind==NameKind.cell <;> simp[hkc]) _ _ _ _ ?_);rw[GG ..];refine DK ?_;exact DW (DW h)
abbrev _root_.Ã:=List (Str×Addr)
abbrev _root_.Â:=List (Str×NameKind)
theorem jA (f:Str×NameKind->List (Str×Addr)->Sem (ForInStep Ã))(hf:∀ name kind cs,f (name,kind) cs=if kind==.free then (do let a <- cellOf env name;pure (.yield ((name,a)::cs))) else pure (.yield cs)):
  ∀ (names:Â)(cs:Ã),(∀ x∈names,x.2=.free->∃ c,env.cells.lookup x.1=some c)->
   ∃ cl,forIn names cs f=pure cl/\(∀ p∈cl,p∈cs\/env.cells.lookup p.1=some p.2)/\(∀ p∈cs,p∈cl)/\∀ x∈names,x.2=.free->∃ c,(x.1,c)∈cl
 | [],cs,_=>⟨cs,by rw[GW],λ_ h=>.inl h,λ_ h=>h,λ_ h=>nomatch h⟩
 | (name,kind)::r,cs,hc=>by
  have hr:∀ x∈r,x.2=.free->∃ c,env.cells.lookup x.1=some c:=λx hx=>hc x<|E6 _ hx;by_cases hk:kind=.free
  ·subst hk;obtain⟨c,e⟩:=hc (name,.free) E7 rfl;obtain⟨cl,h1,h2,h3,h4⟩:=jA f hf r ((name,c)::cs) hr;refine⟨cl,?_,λp hp=>?_,λp hp=>h3 p<|E6 _ hp,λx hx WJ=>?_⟩
   ·rw[Hr,hf];show ((if (NameKind.free==NameKind.free)=true then _ else _) >>= _)=_;rw[if_pos<|by decide];unfold cellOf;rw[e];exact h1
   ·rcases h2 p hp with z|z
    ·rcases E3.mp z with z|z
     ·subst z;exact .inr e
     ·exact .inl z
    ·exact .inr z
   ·rcases E3.mp hx with z|z
    ·subst z;exact⟨c,h3 _ E7⟩
    ·exact h4 x z WJ
  ·obtain⟨cl,h1,h2,h3,h4⟩:=jA f hf r cs hr;refine⟨cl,?_,h2,h3,λx hx WJ=>?_⟩
   ·rw[Hr,hf,if_neg<|by simpa using hk];exact h1
   ·rcases E3.mp hx with z|z
    ·subst z;exact absurd WJ hk
    ·exact h4 x z WJ
theorem xV (hc:∀ x∈scope.names,x.2=.free->∃ c,env.cells.lookup x.1=some c):
  ∃ cl,closureFor scope env=pure cl/\(∀ p∈cl,env.cells.lookup p.1=some p.2)/\∀ x∈scope.names,x.2=.free->∃ c,(x.1,c)∈cl:=by
 obtain⟨cl,h1,h2,_,h4⟩:=jA (λx cs=>if x.2==.free then (do let a <- cellOf env x.1;pure<|.yield ((x.1,a)::cs)) else pure (.yield cs)) (λ_ _ _=>rfl) _ [] hc;refine⟨cl,?_,λp hp=>(h2 p hp).elim (λz=>nomatch z) id,h4⟩;rw[<- h1];have e:∀ (m:Sem (List<|Str×Addr)),_=m:=λm=>bind_pure m
 first
  | exact e _
  | (congr 1;funext x cs;obtain⟨n,k⟩:=x;cases hk)
theorem fC:∀ {l:List (Str×α)}{x:Str}{c:α},(x,c)∈l->∃ d,l.lookup x=some d
 | (k,v)::r,x,c,h=>by
  rw[Gk]
  cases hb:x==k with
  | true=>exact⟨v,rfl⟩
  | false=>
   rcases E3.mp h with e|h
   ·cases e;simp at hb
   ·exact fC h
theorem fG:∀ (names:Â)(n:Nat)(acc:Ã)(p:Str×Addr),p∈cellsFrom n names acc->p∈acc\/(n<=p.2/\(p.1,NameKind.cell)∈names)
 | [],_,_,_,h=>.inl h
 | (y,k)::r,n,acc,p,h=>by
  unfold cellsFrom at h;split at h
  ·rename_i hk;have ek:k=.cell:=by simpa using hk
   rcases fG r (n+1) _ p h with z|⟨z1,z2⟩
   ·rcases E3.mp z with z|z
    ·subst z;subst ek;exact .inr ⟨DV _,E7⟩
    ·exact .inl z
   ·exact .inr ⟨by omega,E6 _ z2⟩
  ·rcases fG r n acc p h with z|⟨z1,z2⟩
   ·exact .inl z
   ·exact .inr ⟨z1,E6 _ z2⟩
theorem fH:∀ (names:Â)(n:Nat)(acc:Ã),(∀ p∈acc,p.2<n)->(∀ x y c,(x,c)∈acc->(y,c)∈acc->x=y)->
  ∀ x y c,(x,c)∈cellsFrom n names acc->(y,c)∈cellsFrom n names acc->x=y
 | [],_,_,_,h=>h
 | (z,k)::r,n,acc,Kb,h=>by
  unfold cellsFrom;split
  ·refine fH r (n+1) _ (λp hp=>?_) (λx y c h1 h2=>?_)
   ·rcases E3.mp hp with e|hp
    ·subst e;exact EX _
    ·exact HH (Kb p hp)
   ·rcases E3.mp h1 with e1|h1 <;> rcases E3.mp h2 with e2|h2
    ·cases e1;cases e2;rfl
    ·cases e1;exact absurd (Kb _ h2) (Fc _)
    ·cases e2;exact absurd (Kb _ h1) (Fc _)
    ·exact h x y c h1 h2
  ·exact fH r n acc Kb h
theorem fF:∀ (names:Â)(n:Nat)(acc:Ã){x:Str},(∀ y∈names,y.2=.cell->y.1≠x)->(cellsFrom n names acc).lookup x=acc.lookup x
 | [],_,_,_,_=>rfl
 | (z,k)::r,n,acc,x,h=>by
  unfold cellsFrom;have hr:∀ y∈r,y.2=.cell->y.1≠x:=λy hy=>h y<|E6 _ hy;split
  ·rename_i hk;rw[fF r (n+1) _ hr,Gk];have:(x==z)=false:=by have:=h (z,k) E7 (by simpa using hk);simpa using Ne.symm this
   rw[this]
  ·exact fF r n acc hr
theorem dc:∀ (names:Â)(h:Heap)(acc:Ã),(∀ p∈acc,∃ v,h.IsCell p.2 v)->∀ p∈cellsFrom h.objs.size names acc,∃ v,(pushCells h names).IsCell p.2 v
 | [],_,_,hc=>hc
 | (z,k)::r,h,acc,hc=>by
  unfold cellsFrom pushCells;split
  ·have:=dc r (h.push { cls:=.type "cell",data:=.cell none }) ((z,h.objs.size)::acc) (λp hp=>by
    rcases E3.mp hp with e|hp
    ·subst e;exact⟨none,_,Eb _ rfl,rfl⟩
    ·obtain⟨v,q⟩:=hc p hp;exact⟨v,q.keeps λb o e=>DU _ e⟩)
   rwa [GG]at this
  ·exact dc r h acc hc
noncomputable def aB (X:Cx)(scope:Scope)(N':η)(cells:Ã)(C:Addr)(s:Ê)(H:Hp)(fp:υ):Cx where
 prog:=X.prog
 w:=X.w
 K:=X.K
 mg:=X.mg
 base:=X.base
 A:=X.A
 N:=N'
 s₀:=s
 H₀:=H
 env:=compEnvC scope cells C X.env
 outer:=X.stack
 stack:=X.stack
 ex:=fp
 fn:=λx=>decide (scope.names.lookup x=some .cell)
 calm:=X.calm
 pn:=[]
 xe:=λ_ _=>False
noncomputable def vN (scope:Scope)(x:Str):Bool:=scope.names.any λy=>y.1==x&&y.2==.free
noncomputable def vO (scope:Scope)(x:Str):Bool:=scope.names.any λy=>y.1==x&&y.2==.cell
abbrev _root_.À:=List Nat
noncomputable def lD (sc:Scope)(N:η)(scope:Scope)(nT:Nat)(js:À)(N':η):Bool:=
 scope.kind==.function&&decide (N'.length=nT+js.length) &&
 scope.names.all (λx=>(x.2 != .local || scope.names.lookup x.1==some .local)&&(x.2 != .free || ((sc.names.lookup x.1==some .cell || sc.names.lookup x.1==some .free)&&scope.names.lookup x.1==some .free))) &&
 (js.zipIdx.all λ(j,i)=>match N'[nT+i]?,N[j]? with
  | some x,some y=>x==y&&vN scope x&&!(vO scope x)
  | _,_=>false)
structure bv (X:Cx) (scope:Scope) (nT:Nat) (js:À) (N':η):Prop where
 kind:scope.kind=.function
 len:N'.length=nT+js.length
 loc:∀ x∈scope.names,x.2=.local->scope.names.lookup x.1=some .local
 free:∀ x∈scope.names,x.2=.free->(X.env.kindOf x.1=some .cell \/ X.env.kindOf x.1=some .free)
 frl:∀ x∈scope.names,x.2=.free->scope.names.lookup x.1=some .free
 cap:∀ (i j:Nat),js[i]?=some j->∃ x,N'[nT+i]?=some x/\X.N[j]?=some x/\(x,NameKind.free)∈scope.names/\∀ y∈scope.names,y.2=.cell->y.1≠x
theorem u9 (hsc:X.env.scope=sc)(hN:X.N=N)(h:lD sc N scope nT js N'=true):bv X scope nT js N':=by
 unfold lD at h;simp only[F6,FZ,Fs,FK]at h;obtain⟨⟨⟨h1,h2⟩,h3⟩,h4⟩:=h;refine⟨h1,h2,λx hx hl=>?_,λx hx hf=>?_,λx hx hf=>?_,λi j e=>?_⟩
 ·have:=(h3 x hx).1;simp only[hl,bne_self_eq_false,Bool.false_or,FK]at this;exact this
 ·have:=(h3 x hx).2;simp only[hf,bne_self_eq_false,Bool.false_or,Gy,F6,FK]at this;show X.env.scope.names.lookup x.1=_\/X.env.scope.names.lookup x.1=_;rw[hsc];exact this.1
 ·have:=(h3 x hx).2;simp only[hf,bne_self_eq_false,Bool.false_or,Gy,F6,FK]at this;exact this.2
 ·have m:(j,i)∈js.zipIdx:=by rw[ES];exact e
  have q:=h4 _ m;rw[hN];revert q
  cases e1:N'[nT+i]? with
  | none=>intro q;cases q
  | some x=>
   cases e2:N[j]? with
   | none=>intro q;cases q
   | some y=>
    intro q;simp only[F6,FK,Bool.not_eq_true']at q;obtain⟨⟨q1,q2⟩,q3⟩:=q;subst q1;refine⟨x,rfl,rfl,?_,λy hy hc hxy=>?_⟩
    ·obtain⟨z,hz,Qr⟩:=List.any_eq_true.mp q2;simp only[F6,FK]at Qr;obtain⟨a,b⟩:=z;obtain⟨rfl,rfl⟩:=Qr;exact hz
    ·have:vO _ x=true:=List.any_eq_true.mpr ⟨y,hy,by simp[hxy,hc]⟩;rw[q3]at this;cases this
noncomputable def pe (nT:Nat)(js:À)(σ:St):St:=List.replicate nT none++js.map λj=>(σ[j]?).join
def Me (X:Cx)(ifs:Ì)(t:TT):Prop:=
 ∀ (ñ:ζ)(s:Ê)(σ:St)(H:Hp)(Q:Ö),Inv X ñ σ H s->t σ H Q->
  wpAny (model X.prog X.w) X.A (forIn ifs true λc r=>if r=true then do let ok <- isTrue c X.env (eval c X.env);pure (ForInStep.yield ok) else pure (ForInStep.yield r)) (TP X ñ σ Q) X.xe s
noncomputable def wP:TT:=λ_ H Q=>Q true H
theorem LG:Me X [] wP:=λñ s σ H Q I h=>by rw[GW];exact DW ⟨H,I,h⟩
theorem c6 (hc:PT X c t):Me X [c] t:=λñ s σ H Q I h=>by refine DK (DK (Iz (hc _ s σ H Q I h) λb s1 q=>DW ?_));exact DW q
def gC (nT:Nat)(js:À)(g:TG)(tt:TT)(te:TE)(σ:St)(F:Addr->Ø):It->Ø:=λJ H1=>∀ l,H1 l=none->
 ∃ W:Nat->Nat->Υ,(∃ m,W 0 m (pe nT js σ) (upd H1 l (.lst [])))/\∀ i m σ' H',W i m σ' H'->
  (J.stop i H'/\F l H')\/(J.go i H'/\∀ x H2,J.S9 i H' x H2->g x σ' H2 λσ3 H3=>∃ (N:Ø)(NV:V->Ø),
   (∀ H4,N H4->∃ m',m'<m/\W (i+1) m' σ3 H4)/\(∀ v H5,NV v H5->∃ ys,H5 l=some (.lst ys)/\ys.length<sizeLine/\∃ m',m'<m/\W (i+1) m' σ3 (upd H5 l (.lst (ys++[v]))))/\
   tt σ3 H3 λb H4=>if b=true then te σ3 H4 NV else N H4)
section
variable {X:Cx}{ñ:ζ}{H:Hp}{s:Ê}
def a3k (X:Cx)(ñ:ζ)(H:Hp)(C:Addr)(s:Ê):Prop:=lI X ñ H C/\X.s₀.heap.objs.size<=C/\∃ m,s.heap.Ns C m
theorem wq (hc:∀ cells C s H fp,Cc (aB X scope N' cells C s H fp))(S:bv X scope nT js N')(hi:PI0 Cc X tg iter wi)(hg:∀ cells C s H fp,PG (aB X scope N' cells C s H fp) tg g)(ht:∀ cells C s H fp,Me (aB X scope N' cells C s H fp) ifs tt)(he:∀ cells C s H fp,PE (aB X scope N' cells C s H fp) elt te)(I:Inv X ñ σ H s)(h:wi σ H (gC nT js g tt te σ F))(fin:∀ (l C:Addr)(s':Ê)(H':Hp),Inv X ñ σ H' s'->a3k X ñ H' C s'->F l H'->compPost X.Ę X.A X.xe use Q (.ref l) C (.ok .next) s')(hs:autoParam (ĕ X iter) ŏ):
  wpAny X.Ę X.A (comprehension (.ListComp elt [⟨tg,iter,ifs,0⟩] scope pos) scope X.env Jg (newList []) false (eval iter X.env) use) Q X.xe s:=by
 have a2C:=λx hx hf=>I.ok.has x.1 (S.free x hx hf);obtain⟨cl,hcl,QU,YC⟩:=xV a2C;refine wpAny_comprehension_free rfl hs hcl S.kind S.loc (Iz (hi ñ s σ H _ I h) λv s1 h1=>Iz h1 λitv s2 h2=>?_);obtain⟨it,fp,tn,J,H2,e,I2,T,ZD,f2,rd⟩:=h2;subst e;have I3:=I2.Vq (t':=s2.toks) .nil (EE _);refine GQ ?_ (by exact EE _);obtain⟨W,⟨m0,w0⟩,turn⟩:=rd s2.heap.objs.size (I2.Iq.fresh (DV _));have OT:=I2.Iq.fresh (DV _);generalize hl:s2.heap.objs.size=l at I3 w0 turn OT ⊢;generalize hs3:({ s2 with heap:=s2.heap.push { cls:=.type "list",data:=.seq ([]).toArray } })=s3 at I3 ⊢;have z3:s3.heap.objs.size=l+1:=by rw[<- hs3,<- hl];exact GG ..
 have k23:∀ b o,s2.heap.get? b=some o->s3.heap.get? b=some o:=λb o e=>by rw[<- hs3];exact DU _ e
 refine vy ?_;generalize hC:s3.heap.objs.size=C;generalize N4:cellsFrom (C+1) scope.names cl=cells;have ZU:(s3.heap.push { cls:=.type "dict",data:=.dict #[] }).objs.size=C+1:=by rw[GG,hC]
 have Ua:∀ b o,s3.heap.get? b=some o->(pushCells (s3.heap.push { cls:=.type "dict",data:=.dict #[] }) scope.names).get? b=some o:=λb o e=>pushCells_keeps _ _ b o (DU _ e);have nsC:(pushCells (s3.heap.push { cls:=.type "dict",data:=.dict #[] }) scope.names).Ns C (λ_=>none):=by have:=(Heap.Ns.new s3.heap (.type "dict")).keeps (pushCells_keeps scope.names _);rwa [hC]at this
 generalize hh4:pushCells _ scope.names=h4 at Ua nsC;have memC:∀ x c,cells.lookup x=some c->(X.env.cells.lookup x=some c/\@LT.lt Nat _ c C)\/_:=λx c e=>by
  have m:=mem_of_lookup e;rw[<- N4]at m;rcases fG _ _ _ _ m with z|z
  ·have q:=QU _ z;obtain⟨v,iz⟩:=I3.cell x c q;exact .inl ⟨q,by have:=iz.lt;rw[hC]at this;exact this⟩
  ·exact .inr z
 have Ti:∀ x c,cells.lookup x=some c->∃ v,h4.IsCell c v:=λx c e=>by
  have m:=mem_of_lookup e;have:=dc scope.names (s3.heap.push { cls:=.type "dict",data:=.dict #[] }) cl (λp hp=>by obtain⟨v,iz⟩:=I3.cell p.1 p.2 (QU p hp);exact⟨v,iz.keeps λb o e=>DU _ e⟩)
  rw[ZU,N4,hh4]at this;exact this _ m
 have RP:∀ b∈fp,@LT.lt Nat _ b l:=λb hb=>by obtain⟨o,e,_⟩:=T.obj _ _ ZD b hb;rw[<- hl];exact E8 e
 have Up:=λb hb z=>(E3.mp (I2.PM b z)).elim (f2 b hb).2.1 (f2 b hb).2.2.1;have okC:(aB X scope N' cells C s3 (upd H2 l (.lst [])) fp).Ok:=by
  refine⟨I3.ok.mod,S.kind,I3.ok.glob,I3.ok.blt,Nat.le_of_eq hC,λx y c e1 e2=>?_,λx hx=>?_,λx c hf e=>?_,I3.ok.hd,I3.ok.frames,.inl rfl,λb hb=>⟨?_,λx c e z=>?_⟩,I3.bs,Ei I3.ok.Sx I3.sz,λb o e hb=>?_,Up,I3.stack,I3.Qf⟩
  ·have Z5:=mem_of_lookup (e1);have N5:=mem_of_lookup (e2);rw[<- N4]at Z5 N5;refine fH scope.names (C+1) cl (λp hp=>?_) (λx y c h1 h2=>I3.ok.inj x y c (QU _ h1) (QU _ h2)) x y c Z5 N5;obtain⟨v,iz⟩:=I3.cell p.1 p.2 (QU p hp);have h1:@LT.lt Nat _ p.2 s3.heap.objs.size:=iz.lt;show @LT.lt Nat _ p.2 (C+1);omega
  ·have QO:=hx;have:∃ k,(x,k)∈scope.names/\(k=.cell\/k=.free):=by
    have m:∃ k,(x,k)∈(relabel scope X.env).names/\(k=.cell\/k=.free):=by
     rcases QO with z|z
     ·exact⟨_,mem_of_lookup z,.inl rfl⟩
     ·exact⟨_,mem_of_lookup z,.inr rfl⟩
    obtain⟨k,m,hk⟩:=m;obtain⟨⟨n,k'⟩,m',e⟩:=DI.mp m;dsimp only at e;split at e
    ·rename_i Um
     cases e;simp only[F6,FK]at Um;exact⟨k',m',.inr Um.1.1⟩
    ·cases e;exact⟨k,m',hk⟩
   obtain⟨k,m,hk⟩:=this;rw[<- N4];have key:∃ c,(x,c)∈cellsFrom (C+1) scope.names cl:=by
    rcases hk with rfl|rfl
    ·have gen:∀ (names:Â)(n:Nat)(acc:Ã),((x,NameKind.cell)∈names\/∃ c,(x,c)∈acc)->∃ c,(x,c)∈cellsFrom n names acc:=by
      intro names
      induction names with
      | nil=>intro n acc h;exact h.elim (λz=>nomatch z) id
      | cons y r ih=>
       intro n acc h;obtain⟨y,k⟩:=y;unfold cellsFrom;split
       ·rename_i hk;refine ih _ _ ?_;rcases h with h|⟨c,h⟩
        ·rcases E3.mp h with e|h
         ·cases e;exact .inr ⟨n,E7⟩
         ·exact .inl h
        ·exact .inr ⟨c,E6 _ h⟩
       ·rename_i hk;refine ih _ _ ?_;rcases h with h|h
        ·rcases E3.mp h with e|h
         ·cases e;exact absurd (show _=true by decide) hk
         ·exact .inl h
        ·exact .inr h
     exact gen _ _ _ (.inl m)
    ·obtain⟨c,Q3⟩:=YC _ m rfl;have gen:∀ (names:Â)(n:Nat)(acc:Ã),(x,c)∈acc->(x,c)∈cellsFrom n names acc:=by
      intro names
      induction names with
      | nil=>intro n acc h;exact h
      | cons y r ih=>
       intro n acc h;obtain⟨y,k⟩:=y;unfold cellsFrom;split
       ·exact ih _ _ (E6 _ h)
       ·exact ih _ _ h
     exact⟨c,gen _ _ _ Q3⟩
   obtain⟨c,m⟩:=key;exact fC m
  ·have WJ:=hf;have a2p:=DZ WJ;rcases memC x c e with⟨_,_⟩|⟨z,_⟩
   ·
    have gen:∀ (names:Â)(n:Nat)(acc:Ã),names.lookup x=some .cell->C+1<=n->∀ c,(cellsFrom n names acc).lookup x=some c->C+1<=c:=by
     intro names
     induction names with
     | nil=>intro n acc h;cases h
     | cons y r ih=>
      intro n acc h hn c Sm;obtain⟨y,k⟩:=y;rw[Gk]at h;unfold cellsFrom at Sm;have last:∀ (names:Â)(n:Nat)(acc:Ã),C+1<=n->(∀ d,acc.lookup x=some d->C+1<=d)->∀ c,(cellsFrom n names acc).lookup x=some c->C+1<=c:=by
       intro names
       induction names with
       | nil=>intro n acc _ h c hc;exact h c hc
       | cons y r ih=>
        intro n acc hn h c hc;obtain⟨y,k⟩:=y;unfold cellsFrom at hc;split at hc
        ·refine ih (n+1) _ (by omega) (λd hd=>?_) c hc;rw[Gk]at hd;split at hd
         ·cases hd;exact hn
         ·exact h d hd
        ·exact ih n acc hn h c hc
      cases hb:x==y with
      | true=>
       rw[hb]at h
       cases h;refine last r (n+1) _ (by omega) (λd hd=>?_) c Sm;rw[Gk,hb]at hd
       cases hd;exact hn
      | false=>
       rw[hb]at h;split at Sm
       ·exact ih (n+1) _ h (by omega) c Sm
       ·exact ih n acc h hn c Sm
    have e':=e;rw[<- N4]at e';have h1:=gen scope.names (C+1) cl a2p (DV _) c e';omega
   ·show @LE.le Nat _ s3.heap.objs.size c;omega
  ·have:=RP b hb;show @Ne Nat b C;omega
  ·subst z;rcases memC x c e with⟨q,_⟩|⟨q,_⟩
   ·exact (f2 c hb).2.2.2.2.1 x c q rfl
   ·have:=RP c hb;omega
  ·rcases (f2 b hb).2.2.2.1 with z|z
   ·exact I3.ok.QJ b o e z
   ·exact absurd (Ey (E8 e) (Ei I3.ok.Sx z)) (Fc _)
 have HC:∀ c:Addr,@LE.le Nat _ C c->upd H2 l _ c=none:=λc Sm=>I3.Iq.fresh (show @LE.le Nat _ s3.heap.objs.size c by omega);have I4:Inv (aB X scope N' cells C s3 (upd H2 l (.lst [])) fp) [] (pe nT js σ) (upd H2 l (.lst [])) { s3 with heap:=h4 }:=by
  refine⟨okC,rfl,I3.bare,Un.kept Ua,⟨_,nsC,λi x v e1 e2 e3=>?_⟩,Ti,HC C (DV _),λx c e=>?_,(λp hp=>nomatch hp),I3.Iq.kept Ua,?_⟩
  ·
   unfold pe at e2;by_cases OU:i<nT
   ·rw[Em (by simpa using OU),GN]at e2;split at e2 <;> cases e2
   ·rw[Es (by simpa using OU),FV,DN]at e2
    cases ej:js[i - nT]? with
    | none=>rw[ej]at e2;cases e2
    | some j=>
     rw[ej]at e2;have N5:(σ[j]?).join=some v:=by simpa using e2
     have a2X:σ[j]?=some (some v):=by
      cases eσ:σ[j]? with
      | none=>rw[eσ]at N5;cases N5
      | some o=>rw[eσ]at N5;exact congrArg some N5
     obtain⟨y,n1,n2,n3,n4⟩:=S.cap _ _ ej;have:nT+(i - nT)=i:=by omega
     rw[this]at n1;have exy:x=y:=by have Z5:N'[i]?=some x:=e1;rw[n1]at Z5;exact (Option.some.inj Z5).symm
     subst exy;obtain⟨m,hn,VM⟩:=I3.loc;have kinds:=S.free _ n3 rfl;have vis:WV X.env.scope x:=by
      rcases kinds with k|k
      ·exact .inr (.inl k)
      ·exact .inr (.inr k)
     obtain⟨u,r,lk⟩:=VM j x v n2 a2X vis;refine⟨u,r,?_⟩;rcases lk with⟨k,_⟩|⟨k,c,ec,iz⟩
     ·rcases kinds with k'|k'
      ·rw[k]at k';cases k'
      ·rw[k]at k';cases k'
     ·refine .inr ⟨?_,c,?_,iz.keeps Ua⟩
      ·have Sn:=e3;rcases Sn with z|z|z
       ·
        exfalso;have m:=mem_of_lookup z;obtain⟨⟨n,k'⟩,m',e⟩:=DI.mp m;dsimp only at e;split at e
        ·cases e
        ·cases e;have q:=S.loc _ m' rfl;rw[S.frl _ n3 rfl]at q
         cases q
       ·exact .inl z
       ·exact .inr z
      ·show cells.lookup x=some c;rw[<- N4,fF _ _ _ n4];obtain⟨d,hd⟩:=YC _ n3 rfl;obtain⟨d',Oi⟩:=fC hd;have:=QU _ (mem_of_lookup Oi);rw[ec]at this;rw[Oi,Option.some.inj this]
  ·rcases memC x c e with⟨q,_⟩|⟨q,_⟩
   ·exact I3.Ky x c q
   ·exact HC c (by omega)
  ·unfold pe;show _=N'.length;rw[S.len,DT,FV,DH]
 have stat:∀ {H':Hp},(∀ b∈fp,H' b=none)->∀ b∈fp,lI (aB X scope N' cells C s3 (upd H2 l (.lst [])) fp) [] H' b:=λhn b hb=>by
  refine⟨hn b hb,?_,Up b hb,.inl hb,λx c e z=>?_,(λp hp=>nomatch hp)⟩
  ·have:=RP b hb;show @Ne Nat b C;omega
  ·subst z;rcases memC x c e with⟨q,_⟩|⟨q,_⟩
   ·exact (f2 c hb).2.2.2.2.1 x c q rfl
   ·have:=RP c hb;omega
 have fr0:∀ b∈fp,upd H2 l (.lst []) b=none:=λb hb=>by rw[ab (EL (RP b hb))];exact (f2 b hb).1
 have tn4:=T.keep _ _ _ ZD λb _ o e=>Ua b o (k23 b o e);have loop:codeAny X.Ę X.A (.compLoop (.ListComp elt [⟨tg,iter,ifs,0⟩] scope pos) 0 (.ref it) (.ref l) (compEnvC scope cells C X.env)) (compPost X.Ę X.A X.xe use Q (.ref l) C) { s3 with heap:=h4 }:=by
  refine ua (λn s'=>∃ i σ' H',Inv _ [] σ' H' s'/\tn i s'.heap/\(∀ b∈fp,H' b=none)/\W i n σ' H') ?_ m0 ⟨0,_,_,I4,tn4,fr0,w0⟩;rintro n s5 ⟨i,σ5,H5,I5,Wv,fr5,w5⟩;rcases turn i n σ5 H5 w5 with⟨stop,qn⟩|⟨go,step⟩
  ·refine Iz (T.done (aB X scope N' cells C s3 (upd H2 l (.lst [])) fp) rfl rfl rfl (hc _ _ _ _ _) i [] s5 σ5 H5 U7 I5 (stat fr5) Wv stop) λr s6 gR=>?_;obtain⟨hr,I6⟩:=gR;subst hr;have un:=I6.base;have J6:=I3.Zc I6.os un I6.Iq I6.bare λb hb=>⟨(f2 b hb).2.2.2.1,(f2 b hb).2.1,(f2 b hb).2.2.2.2.1,(f2 b hb).2.2.2.2.2⟩
   obtain⟨m6,n6,_⟩:=I6.loc;have YL:@Ne Nat C X.env.locals:=by have h1:@LT.lt Nat _ X.env.locals s3.heap.objs.size:=I3.lt;omega
   have hCs:@LE.le Nat _ X.s₀.heap.objs.size C:=by have:=I3.sz;omega
   refine fin l C s6 H5 J6 ⟨⟨I6.free,YL,λz=>?_,.inr hCs,λx c e z=>?_,λp hp z=>?_⟩,hCs,m6,n6⟩ qn
   ·have:=I3.XO (Nat.le_of_eq hC);exact this z
   ·obtain⟨v,iz⟩:=I3.cell x c e;have h1:@LT.lt Nat _ c s3.heap.objs.size:=iz.lt;have h2:@Eq Nat c C:=z;omega
   ·have h1:@LT.lt Nat _ p.1 s3.heap.objs.size:=E8 (I3.pin p hp).1;have h2:@Eq Nat p.1 C:=z;omega
  ·refine Iz (T.item (aB X scope N' cells C s3 (upd H2 l (.lst [])) fp) rfl rfl rfl (hc _ _ _ _ _) i [] s5 σ5 H5 U7 I5 (stat fr5) Wv go) λr s6 gR=>?_;obtain⟨u,hr,h6⟩:=gR;subst hr;refine Iz h6 λ_ s7 gR=>?_;obtain⟨x,H7,I7,r7,y7,st7,fr7⟩:=gR;have I7':=I7.pinned (stat fr7) (T.obj _ _ st7);refine Iz (hg cells C s3 (upd H2 l (.lst [])) fp _ s7 σ5 H7 x u _ I7' r7 (step x H7 y7)) λ_ s8 gR=>?_;obtain⟨σ8,H8,I8,q8⟩:=gR;have again:∀ {H9:Hp}{s9:Ê},Inv (aB X scope N' cells C s3 (upd H2 l (.lst [])) fp) ([]++nX fp s7.heap) σ8 H9 s9->tn (i+1) s9.heap/\∀ b∈fp,H9 b=none:=λ{H9 s9} I9=>by refine⟨T.keep _ _ _ st7 λb hb o e=>(I9.pin (b,o) (Ec _ (Ec _ (gv hb e)))).1,λb hb=>?_⟩;obtain⟨o,e,d⟩:=T.obj _ _ st7 b hb;exact (I9.pin (b,o) (Ec _ (Ec _ (gv hb e)))).2.1
   obtain⟨N,NV,hN,hNV,q8⟩:=q8;refine Iz (ht cells C s3 (upd H2 l (.lst [])) fp _ s8 σ8 H8 _ I8 q8) λb s9 gR=>?_;obtain⟨H9,I9,q9⟩:=gR
   cases b with
   | false=>
    obtain⟨m',hm,w9⟩:=hN _ q9;exact⟨m',hm,i+1,σ8,H9,I9.Lb,(again I9).1,(again I9).2,w9⟩
   | true=>
    refine Iz (he cells C s3 (upd H2 l (.lst [])) fp _ s9 σ8 H9 _ I9 q9) λy s10 gR=>?_;obtain⟨v,H10,I10,r10,q10⟩:=gR;obtain⟨ys,el,hz,m',hm,w10⟩:=hNV _ _ q10;refine Iz (aO _ s10 σ8 H10 (.ref l) [v] _ [y] (λz H11=>z=.non/\H11=upd H10 l _) I10 rfl (.cons r10 .nil) ⟨l,ys,v,rfl,rfl,el,hz,rfl,rfl⟩) λ_ s11 gR=>?_;obtain⟨_,H11,I11,_,_,e11⟩:=gR;subst e11;exact⟨m',hm,i+1,σ8,_,I11.Lb,(again I11).1,(again I11).2,w10⟩
 refine codeAny_compStart_list loop (T.self _ 0 _ _ _ tn4 loop)
end
section
variable {wi:TI}{nT:Nat}{js:À}{g:TG}{tt:TT}{te:TE}
noncomputable def jN (wi:TI)(nT:Nat)(js:À)(g:TG)(tt:TT)(te:TE):TE:=λσ H Q=>wi σ H (gC nT js g tt te σ λl H'=>Q (.ref l) H')
theorem Bb (hc:∀ cells C s H fp,Cc (aB X scope N' cells C s H fp))(S:bv X scope nT js N')(hi:PI0 Cc X tg iter wi)(hg:∀ cells C s H fp,PG (aB X scope N' cells C s H fp) tg g)(ht:∀ cells C s H fp,Me (aB X scope N' cells C s H fp) ifs tt)(he:∀ cells C s H fp,PE (aB X scope N' cells C s H fp) elt te)(hs:autoParam (ĕ X iter) ŏ):PE X (.ListComp elt [⟨tg,iter,ifs,0⟩] scope pos) (jN wi nT js g tt te):=by intro ñ s σ H Q I h;refine wq hc S hi hg ht he I h (λl C s' H' I' gR q=>?_) hs;obtain⟨f,_,m,n⟩:=gR;refine⟨m,n,λh' sb=>⟨.ref l,H',?_,rfl,q⟩⟩;exact I'.turned (λb o hb e=>(sb.2 b hb).trans e) f.1 f.2.1 f.2.2.2.1 f.2.2.2.2.1 f.2.2.2.2.2
theorem eO (hc:X.calm=true)(S:bv X scope nT js N')(hi:PI X tg iter wi)(hg:∀ cells C s H fp,PG (aB X scope N' cells C s H fp) tg g)(ht:∀ cells C s H fp,Me (aB X scope N' cells C s H fp) ifs tt)(he:∀ cells C s H fp,PE (aB X scope N' cells C s H fp) elt te)(hs:autoParam (ĕ X iter) ŏ):PE X (.ListComp elt [⟨tg,iter,ifs,0⟩] scope pos) (jN wi nT js g tt te):=Bb (λ_ _ _ _ _=>hc) S hi hg ht he hs
theorem uX (hN:X.N.Nodup)(OU:X.N[i]?=some x)(hx:X.env.scope.names.lookup x=some .local)(hc:∀ cells C s H fp,Cc (aB X scope N' cells C s H fp))(S:bv X scope nT js N')(hi:PI0 Cc X tg iter wi)(hg:∀ cells C s H fp,PG (aB X scope N' cells C s H fp) tg g)(ht:∀ cells C s H fp,Me (aB X scope N' cells C s H fp) ifs tt)(he:∀ cells C s H fp,PE (aB X scope N' cells C s H fp) elt te)(hsw:autoParam (swapsWith (.ListComp elt [⟨tg,iter,ifs,0⟩] scope pos) (some (.Name x pos')) Ru.line X.env=pure true) ŕ)(hs:autoParam (ĕ X iter) ŏ):PS X (.Assign [.Name x pos'] (.ListComp elt [⟨tg,iter,ifs,0⟩] scope pos) Ru) (lY (jN wi nT js g tt te) (bU i)):=by
 intro ñ s σ H D I h;rw[exec_Assign_Name_used _ _ _ _ hsw];refine DK<|wpAny_standAt (DK ?_);refine DK<|FJ (wq hc S hi hg ht he I h (λl C s' H' I' gR q=>?_) hs) (λ_ s' hq=>DW<|DW hq) λ_ _ e=>e;obtain⟨f,sz,m,n⟩:=gR;refine wpAny_assign_Name<|qp I' hN OU (.inl hx) (v:=.ref l) rfl (λXj I'' gR=>?_) (.inr hx);obtain⟨a,sb,ha⟩:=gR;have hCa:C≠a:=by
  rcases ha with rfl|ha
  ·exact f.2.1
  ·exact λz=>f.2.2.2.2.1 x a ha z.symm
 refine⟨m,n.sameBut sb hCa,λh' sb'=>⟨_,H',?_,q⟩⟩;exact I''.turned (λb o hb e=>(sb'.2 b hb).trans e) f.1 f.2.1 f.2.2.2.1 f.2.2.2.2.1 f.2.2.2.2.2
theorem aP (hN:X.N.Nodup)(OU:X.N[i]?=some x)(hx:X.env.scope.names.lookup x=some .local)(hc:X.calm=true)(S:bv X scope nT js N')(hi:PI X tg iter wi)(hg:∀ cells C s H fp,PG (aB X scope N' cells C s H fp) tg g)(ht:∀ cells C s H fp,Me (aB X scope N' cells C s H fp) ifs tt)(he:∀ cells C s H fp,PE (aB X scope N' cells C s H fp) elt te)(hsw:autoParam (swapsWith (.ListComp elt [⟨tg,iter,ifs,0⟩] scope pos) (some (.Name x pos')) Ru.line X.env=pure true) ŕ)(hs:autoParam (ĕ X iter) ŏ):PS X (.Assign [.Name x pos'] (.ListComp elt [⟨tg,iter,ifs,0⟩] scope pos) Ru) (lY (jN wi nT js g tt te) (bU i)):=uX hN OU hx (λ_ _ _ _ _=>hc) S hi hg ht he hsw hs
end
theorem rT {K:Ψ}(Pv:Addr->Nat->Ø)(h0:∀ l,H1 l=none->Pv l 0 (upd H1 l (.lst [])))(hl:∀ l i H,i<=xs.length->Pv l i H->Il K H a xs)(hs:∀ l i x H,xs[i]?=some x->Pv l i H->tt (some x::js.map λj=>(σ[j]?).join) H λb H4=>
   if b=true then te (some x::js.map λj=>(σ[j]?).join) H4 λv H5=>∃ ys,H5 l=some (.lst ys)/\ys.length<sizeLine/\Pv l (i+1) (upd H5 l (.lst (ys++[v]))) else Pv l (i+1) H4)(hd:∀ l H,Pv l xs.length H->F l H):gC 1 js (bU 0) tt te σ F (UA K a) H1:=by
 intro l WG;refine⟨λi m σ' H=>m=xs.length - i/\i<=xs.length/\(∃ o,σ'=o::js.map λj=>(σ[j]?).join)/\Pv l i H,⟨xs.length,by simp,EE _,⟨none,rfl⟩,h0 l WG⟩,?_⟩;rintro i m σ' H ⟨rfl,hi,⟨o,rfl⟩,p⟩;have q:=hl l i H hi p;by_cases Kb:i<xs.length
 ·refine .inr ⟨⟨xs,xs[i],q,by simp⟩,λx H2 y=>?_⟩;obtain⟨e,y⟩:=y;subst e;refine⟨Pv l _,λv H5=>∃ ys,H5 l=some (.lst ys)/\ys.length<sizeLine/\Pv l _ _,λH4 p4=>⟨xs.length - _,by omega,rfl,Kb,⟨some x,rfl⟩,p4⟩,
   λv H5 gR=>(by obtain⟨ys,e1,e2,p5⟩:=gR;exact⟨ys,e1,e2,xs.length - (i+1),by omega,rfl,Kb,⟨some x,rfl⟩,p5⟩),hs l i x _ (y xs q) p⟩
 ·have e:i=xs.length:=by omega
  subst e;exact .inl ⟨⟨xs,q,DV _⟩,hd l H p⟩
section
variable {X:Cx}
theorem Cd:IL X (.builtin "isinstance") (λxs H Q=>∃ x t T b,xs=[x,.ty T]/\kB X.K H x t/\W.kitOne X.K t (.type T)=some b/\Q (.bl b) H):=by
 intro ñ s σ H xs us Q I r h;obtain⟨x,t,T,b,rfl,ty,e,q⟩:=h;obtain⟨u,w',rfl,r1,r2⟩:=Aw r
 cases r2;exact zU I r1 ty e λtk=>⟨.bl b,H,I.tok tk,rfl,q⟩
theorem de:bootBuiltins "isinstance"=some (.builtin "isinstance"):=by decide +kernel
theorem Cf:bootBuiltins "sum"=some (.builtin "sum"):=by decide +kernel
theorem Al (hc:X.calm=true):IL X (.builtin "sum") (λxs H Q=>∃ (p:Addr)(ns:Ξ),xs=[.ref p]/\Il X.K H p (ns.map V.int)/\Q (.int ns.sum) H):=by
 intro ñ s σ H xs us Q I r h;obtain⟨p,ns,rfl,hq,q⟩:=h;obtain⟨u,rfl,r1⟩:=gG r
 cases r1;obtain⟨its,rv,pl,hz⟩:=I.list hq;have hi:=xJ rv;obtain⟨xs,hx⟩:=hi.allInts.items;have hl':=hx▸pl.isList;refine sum_intListG (I.ok.hd hc) hl' λh' tk t' hk=>?_;have e1:ns=xs.toList.map (·.1):=by rw[<- nums_intItems,<- hx];exact (hi.numsOf).symm
 have e2:preSum (numAt xs) xs.size=ns.sum:=by rw[preSum_eq,Ff<|by simp,e1]
 rw[e2];exact⟨.int _,H,I.kept hk,⟨_,rfl⟩,q⟩
structure EqK (K:Ψ) {α:Type} [DecidableEq α] (R:Hp->V->α->Prop) (k:Nat):Prop where
 eq:∀ (X:Cx)(A:Ë)(ñ:ζ)(s:Ê)(σ:St)(H:Hp)(x y:V)(v u:Value)(a b:α),X.K=K->Inv X ñ σ H s->RelV x v->RelV y u->R H x a->R H y b->A.units+k<cLine->SeqAt.EqAt A s v u (decide (a=b))
 fn:∀ (X:Cx)(ñ:ζ)(s:Ê)(σ:St)(H:Hp)(x:V)(a b:α),X.K=K->Inv X ñ σ H s->R H x a->R H x b->a=b
def ZR:Hp->V->Int->Prop:=λ_ x n=>x=.int n
theorem Dn {K:Ψ}:EqK K ZR 0 where
 eq:=by
  intro X A _ s σ H x y v u a b _ I rx ry ha hb _
  cases ha
  cases hb;obtain⟨t,rfl⟩:=rx;obtain⟨t',rfl⟩:=ry;obtain⟨e,h1,h2⟩:=HT.RQ A s a t b t';have:e=decide (a=b):=by rw[Fe,h2,FC]
  rw[<- this];exact h1
 fn:=by
  intro X _ s σ H x a b _ I ha hb
  cases ha
  cases hb;rfl
def Dg (K:Ψ){α:Type}(R:Hp->V->α->Prop):Hp->V->List α->Prop:=λH x as=>∃ p vs,x=.ref p/\Il K H p vs/\Paired (R H) vs as
theorem Paired.at:∀ {l₁:List α}{l₂:List β}{i:Nat}{a:α},Paired F l₁ l₂->l₁[i]?=some a->∃ b,l₂[i]?=some b/\F a b
 | _,_,_,_,.nil,e=>by simp at e
 | _,_,0,_,.cons r _,e=>by simp at e;subst e;exact⟨_,rfl,r⟩
 | _,_,i+1,a,.cons _ t,e=>by obtain⟨u,h1,h2⟩:=Paired.at (i:=i) (a:=a) t (by simpa using e);exact⟨u,by simpa using h1,h2⟩
theorem Vals.at' {i:Nat}(r:Vals xs us)(h:us[i]?=some u):∃ x,xs[i]?=some x/\RelV x u:=by
 have hl:=r.length;have hi:=(DJ.mp h).1;have e:xs[i]?=some xs[i]:=by simp
 obtain⟨u',h1,h2⟩:=r.get e;rw[h]at h1;cases h1;exact⟨_,e,h2⟩
section
variable {α:Type}[DecidableEq α]
theorem xH {R:Hp -> V -> α -> Prop}{K:Ψ}(h:EqK K R k){X:Cx}{as bs:List α}(hK:X.K=K)(I:Inv X ñ σ H s)(r1:Vals vs its)(r2:Vals ws Ma)(p1:Paired (R H) vs as)(p2:Paired (R H) ws bs)(hl:its.length=Ma.length)(hu:A.units+k<cLine):
  (∀ j (h1:j<its.toArray.size) (h2:j<Ma.toArray.size),SeqAt.EqAt A s its.toArray[j] Ma.toArray[j] (decide (as[j]?=bs[j]?)))/\(List.range its.toArray.size).all (λj=>decide (as[j]?=bs[j]?))=decide (as=bs):=by
 have l1:=r1.length;have l2:=r2.length;have l3:=Paired.length p1;have l4:=Paired.length p2;refine⟨λj h1 h2=>?_,?_⟩
 ·obtain⟨x,ex,rx⟩:=r1.at' (i:=j) (u:=its[j]) (by simp);obtain⟨y,ey,ry⟩:=r2.at' (i:=j) (u:=Ma[j]) (by simp);obtain⟨a,ea,ra⟩:=Paired.at p1 ex;obtain⟨b,eb,rb⟩:=Paired.at p2 ey;have:=h.eq X A _ s σ H x y _ _ a b hK I rx ry ra rb hu;rw[ea,eb];simpa using this
 ·rw[Fe,Fs,FC];constructor
  ·intro hh;apply GB;intro i;by_cases hi:i<its.length
   ·exact DZ (hh i<|Eg.mpr hi)
   ·rw[Ed<|by omega,Ed<|by omega]
  ·rintro rfl i _;exact DM rfl
end
theorem V' [DecidableEq α]{R:Hp->V->α->Prop}(h:EqK X.K R k)(hu:X.A.units+(k+1)<cLine):JT X (compareOp .NotEq) (λx y H Q=>∃ as bs,Dg X.K R H x as/\Dg X.K R H y bs/\Q (.bl (!decide (as=bs))) H):=by
 intro ñ s σ H x y v u Q I rx ry hw;obtain⟨as,bs,ha,hb,q⟩:=hw;obtain⟨p,vs,rfl,h1,h2⟩:=ha;obtain⟨p',ws,rfl,h3,h4⟩:=hb
 cases rx
 cases ry;obtain⟨its,r1,pl,hz⟩:=I.list h1;obtain⟨Ma,r2,pl2,Qr⟩:=I.list h3;have l1:=r1.length;have l2:=r2.length;have l3:=Paired.length h2;have l4:=Paired.length h4;by_cases hl:its.length=Ma.length
 ·obtain⟨e1,e2⟩:=xH (A:=X.A.in1) h rfl I r1 r2 h2 h4 hl (by rw[Around.in1_units];omega);refine SeqAt.RcNeAt.lists pl.isList pl2.isList (hl) (by omega) e1 _ X.w _ _ ?_;rw[e2];exact⟨.bl _,H,I,rfl,q⟩
 ·have:decide (as=bs)=false:=by rw[decide_eq_false_iff_not];rintro rfl;omega
  rw[this]at q;exact SeqAt.RcNeAt.lists_lengths pl.isList pl2.isList (by simpa using hl) (by omega) _ X.w _ _ ⟨.bl _,H,I,rfl,q⟩
end
def Df (P:É)(w:World)(K:Ψ)(mg:Ω)(base:Heap)(k:Nat)(x:Str)(ps:η)(sp:Sp):Prop:=
 ∃ f fd,mg x=some (.ref f)/\W.keepIn K (.ref f)=true/\Binds K fd ps []/\HP P w K mg base Ik k f fd ps sp
def Dm (P:É)(w:World)(K:Ψ)(mg:Ω)(base:Heap)(k:Nat)(C:Addr)(m:Str)(ps:η)(sp:Sp):Prop:=
 ∃ f fd,LF K C/\yb K C m f/\Binds K fd ps []/\HP P w K mg base Ik k f fd ps sp
def Dk (P:É)(w:World)(K:Ψ)(mg:Ω)(base:Heap)(k:Nat)(x:Str)(C:Addr)(ps:η)(sp:Sp):Prop:=
 ∃ f fd,mg x=some (.ref C)/\Mk K C f/\Binds K fd ps []/\HP P w K mg base Ik k f fd ps sp
theorem b7 (D:Df X.prog X.w X.K X.mg X.base k x ps sp)(hr:IA k X.A)(hg:Gl X x)(ha:PA X (e::es) t)(Mb:autoParam (Ė x) ĩ)(he:autoParam (Ĕ X e es) ŕ)(L':autoParam (Ē X pos es) ŕ):
  PE X (.Call (.Name x p) (e::es) [] pos) (yj sp [] E0 t):=by
 obtain⟨f,fd,hm,kp,b,F⟩:=D;exact yz F hr hg hm kp b .nil lP ha Mb he L'
theorem bE (he:PE X o ta)(D:Dm X.prog X.w X.K X.mg X.base k C m ps sp)(hr:IA k X.A)(ha:PA X (e::es) t)(QQ:autoParam (Ĕ X e es) ŕ)(L':autoParam (Ē X pos es) ŕ)(ht:autoParam (eval (.Call (.Attribute o m apos) (e::es) [] pos) X.env=(do
   let ov <- eval o X.env
   standAt apos.atName
   let (f,first) <- holding [ov] (getMethod ov m pl)
   callWith pos f first (backTo pos (starEach (e::es) X.env)) (backToKw pos (keywordEach [] X.env)))) ŕ):
  PE X (.Call (.Attribute o m apos) (e::es) [] pos) (qm C m sp [] E0 ta t):=by
 obtain⟨f,fd,cl,hm,b,F⟩:=D;exact yw he cl hm F hr b .nil lP ha QQ L' ht
theorem ir (D:Dk X.prog X.w X.K X.mg X.base k x C ps sp)(hr:IA (k+1) X.A)(hg:Gl X x)(ha:PA X (e::es) t)(Mb:autoParam (Ė x) ĩ)(he:autoParam (Ĕ X e es) ŕ)(L':autoParam (Ē X pos es) ŕ):
  PE X (.Call (.Name x p) (e::es) [] pos) (yi C sp [] E0 t):=by
 obtain⟨f,fd,hm,M,b,F⟩:=D;exact CU M F hr hg hm b .nil lP ha Mb he L'
def Jo (K:Ψ)(x ğ:Str)(st:Stmt):Prop:=∃ f fd,W.nsIn K mainGlobals x=some (some (.ref f))/\Iy K x ğ st f fd
theorem av {K:Ψ}{st:Stmt}{kV:Value}(a:W.nsIn K mainGlobals x=some (some (.ref f)))(l:K.lookup f=some ⟨oc,od,.func (W.fnOf x ğ (aT st) (aH st) (a8 st) .none kV doc pm an HU ct),Kv⟩)(c:W.codeIn K HU ğ=true)(k:W.keepIn K (.ref f)=true):Jo K x ğ st:=⟨f,_,a,xL l c k⟩
def MV (K:Ψ)(C:Addr)(m ğ:Str)(st:Stmt):Prop:=∃ f fd,yb K C m f/\Iy K m ğ st f fd
theorem aX {K:Ψ}{st:Stmt}{kV:Value}(a:W.findIn K (.ref C) m=some (some (.ref f)))(i:W.isFn K (.ref f)=true)(l:K.lookup f=some ⟨oc,od,.func (W.fnOf m ğ (aT st) (aH st) (a8 st) .none kV doc pm an HU ct),Kv⟩)(c:W.codeIn K HU ğ=true)(k:W.keepIn K (.ref f)=true):MV K C m ğ st:=⟨f,_,⟨a,i,k⟩,xL l c k⟩
theorem aV (e:f' H H2)(h:H2 T=Option.none):f' H (upd H2 T o):=λb u hb=>by rw[ab<|aq (e b u hb) h];exact e b u hb
theorem aW (e:f' H H2)(h:H T=Option.none):f' H (upd H2 T o):=λb u hb=>by rw[ab<|aq hb h];exact e b u hb
theorem Paired.Mq (r:Paired F l₁ l₂)(h:F a b):Paired F (l₁++[a]) (l₂++[b]):=Paired.snoc r h
theorem xy {xs:Ξ}{i:Nat}(h:(xs.map V.int)[i]?=some x):∃ a,xs[i]?=some a/\x=.int a:=by
 rw[DN]at h
 cases e:xs[i]? with
 | none=>rw[e]at h;cases h
 | some z=>rw[e]at h;exact⟨z,rfl,(Option.some.inj h).symm⟩
section
variable {js:À}{σ:St}
noncomputable abbrev Za (σ:St)(js:À):St:=js.map λj=>(σ[j]?).join
end
section
variable (K:Ψ)
theorem oP (h:autoParam (X.K=K) ŕ):Qy X (CM K):=h▸yI
theorem VA (h:autoParam (X.K=K) ŕ):Qy X (CK K):=h▸BC
theorem t6 (hl:PE X l tl)(h:autoParam (X.K=K) ŕ):PI X tg l (Ud K tl):=h▸CT hl
theorem V1 (hg:Gl X "zip")(hm:X.mg "zip"=none)(ha:PA X [e1,e2] ta)(h:autoParam (X.K=K) ŕ)(hs:autoParam (starEach [e1,e2] X.env=[(false,eval e1 X.env),(false,eval e2 X.env)]) ŕ)(OR:autoParam (starEach [e2] X.env=[(false,eval e2 X.env)]) ŕ):
  PI X (.Tuple elts x1 Mo) (.Call (.Name "zip" p) [e1,e2] [] pos) (Y5 K ta):=h▸B4 hg hm ha hs OR
theorem cr (hc:X.calm=true)(hh:Zo X es t)(h:autoParam (X.K=K) ŕ)(hn:autoParam ((assignEach es X.env).length=n) ŕ)(QQ:autoParam ((assignEach es X.env).findIdx? (·.1)=none) ŕ):PG X (.Tuple es k pos) (Aa K n t):=h▸V3 hc hh hn QQ
theorem Vs (h:autoParam (X.K=K) ŕ):IL X (.builtin "len") (λxs H Q=>∃ p ys,xs=[.ref p]/\(Il K H p ys\/Kc K H p ys)/\Q (.int ys.length) H):=h▸MO
theorem VB (h:autoParam (X.K=K) ŕ):IL X (.builtin "isinstance") (λxs H Q=>∃ x t T b,xs=[x,.ty T]/\kB K H x t/\W.kitOne K t (.type T)=some b/\Q (.bl b) H):=h▸Cd
theorem vY (he:PE X e ta)(hb:attributeBase e f X.env (eval e X.env)=eval e X.env)(h:autoParam (X.K=K) ŕ):PE X (.Attribute e f pos) (Xe K ta f):=h▸B9 he hb
theorem XX (h:autoParam (X.K=K) ŕ):IL X (.type "list") (λxs H Q=>∃ p ys,xs=[.ref p]/\(Il K H p ys\/Kc K H p ys)/\∀ l,H l=none->Q (.ref l) (upd H l (.lst ys))):=h▸ue
theorem a3e {id:String}(pa:PlainAttrs T)(slot:Slot T name id)(SY:typeOf (.builtin id)=pure (.type "method_descriptor"))(hm:MtR X id r)(ho:PE X o to)(h:autoParam (X.K=K) ŕ)(ML:autoParam (attributeBase o name X.env (eval o X.env)=eval o X.env) ŕ)(MI:autoParam ((apos.endLine==Jg.line)=true) ŕ):PE X (.Call (.Attribute o name apos) [] [] Jg) (UN K T r to):=h▸V8 pa slot SY hm ho ML MI
theorem Pz {id:String}(pa:PlainAttrs T)(slot:Slot T name id)(SY:typeOf (.builtin id)=pure (.type "method_descriptor"))(hm:MtR X id r)(ho:PE X o to)(ha:PA X (e::es) t)(h:autoParam (X.K=K) ŕ)(ML:autoParam (attributeBase o name X.env (eval o X.env)=eval o X.env) ŕ)(VQ:autoParam (((backTo Jg (starEach (e::es) X.env)).all (λx=>!x.1)&&(backToKw Jg (keywordEach [] X.env)).all (λx=>x.1.isSome)
   && decide ((e::es).length+([]:List Keyword).length+(if ([]:List Keyword).isEmpty then 0 else 1)<30))=true) ŕ)(MI:autoParam ((apos.endLine==Jg.line)=true) ŕ)(hs:autoParam (Ĕ X e es) ŕ)(Q0:autoParam ((backTo Jg (starEach es X.env)).any (·.1)=false) ŕ):
  PE X (.Call (.Attribute o name apos) (e::es) [] Jg) (Zz K T r to t):=h▸XC pa slot SY hm ho ha ML VQ MI hs Q0
end
noncomputable def a00 (c:TT)(t u:TS):TS:=λD σ H=>∃ J:Υ,(∀ σ' H',J σ' H'->D.nx σ' H')/\c σ H λb H1=>if b=true then t { D with nx:=J } σ H1 else u { D with nx:=J } σ H1
theorem nV (hc:PT X c tc)(ha:N6 X a t)(hb:N6 X b u):PS X (.If c a b pos) (a00 tc t u):=by
 intro ñ s σ H D I h;obtain⟨J,hJ,h⟩:=h;refine Iz (io hc ha hb _ s σ H { D with nx:=J } I h) λf s1 q=>?_
 cases f with
 | next=>obtain⟨σ',H',I',q⟩:=q;exact⟨σ',H',I',hJ _ _ q⟩
 | brk=>exact q
 | cont=>exact q
 | ret v=>exact q
section
variable {t:TA}
def JJ (H:Hp)(o:HO)(Q:VK):Prop:=∀ p H2,f' H H2->H p=none->H2 p=some o->Q (.ref p) H2
theorem JJ.at (h:JJ H o Q)(hp:H p=none):Q (.ref p) (upd H p o):=h p _ (aV (f'.refl _) hp) hp ag
noncomputable def X' (t:TA):TE:=λσ H Q=>t σ H λxs H1=>xs.length<=sizeLine/\JJ H1 (.tup xs) Q
noncomputable def Xd (t:TA):TE:=λσ H Q=>t σ H λxs H1=>xs.length<=sizeLine/\JJ H1 (.lst xs) Q
theorem eM {x1}(h:PA X es t):PE X (.Tuple es x1 pos) (X' t):=by intro ñ s σ H Q I hq;refine wpAny_Tuple_spliced<|Iz (h pos _ s σ H _ I hq) λus s1 ⟨xs,H1,I1,r,z,q⟩=>⟨by rw[<- r.length];exact z,?_⟩;have hf:=I1.Iq.fresh<|DV _;refine⟨.ref _,upd H1 _ _,I1.laid (λb u e=>DU _ e) (DV _) ?_,rfl,q.at hf⟩;exact⟨z,us,r,⟨_,Eb _ rfl,rfl,_,rfl⟩⟩
theorem gj (h:PA X es t):PE X (.List es pos) (Xd t):=by intro ñ s σ H Q I hq;refine wpAny_List_spliced<|Iz (h pos _ s σ H _ I hq) λus s1 ⟨xs,H1,I1,r,z,q⟩=>⟨by rw[<- r.length];exact z,?_⟩;have hf:=I1.Iq.fresh<|DV _;refine⟨.ref _,upd H1 _ _,I1.laid (λb u e=>DU _ e) (DV _) ?_,rfl,q.at hf⟩;exact⟨z,us,0,r,Eb _ rfl⟩
theorem JT.imp (h:JT X f r)(k:∀ x y H Q,r' x y H Q->r x y H Q):JT X f r':=λñ s σ H x y v u Q I rx ry q=>h _ s σ H x y v u Q I rx ry (k _ _ _ _ q)
theorem WX.imp (h:WX X r)(k:∀ x l u H Q,r' x l u H Q->r x l u H Q):WX X r':=λñ s σ H x v vl vu lo hi sl Q I rx hs pl pu q=>h _ s σ H x v vl vu lo hi sl Q I rx hs pl pu (k _ _ _ _ _ q)
theorem IL.imp (h:IL X f r)(k:∀ xs H Q,r' xs H Q->r xs H Q):IL X f r':=λñ s σ H xs us Q I rx q=>h _ s σ H xs us Q I rx (k _ _ _ q)
noncomputable def U0:R2:=λx y H Q=>∃ l b xs zs,x=.ref l/\y=.ref b/\H l=some (.lst xs)/\H b=some (.lst zs)/\xs.length+zs.length<=sizeLine/\JJ H (.lst (xs++zs)) Q
theorem yB:JT X (binaryOp .Add) U0:=Va.imp λ_ _ _ _ gR=>by obtain⟨l,b,xs,zs,h1,h2,h3,h4,h5,q⟩:=gR;exact⟨l,b,xs,zs,h1,h2,h3,h4,h5,λ_ hp=>q.at hp⟩
def Xq (K:Ψ):V->Option Int->Option Int->Hp->VK->Prop:=λx lo hi H Q=>∃ a xs,x=.ref a/\Il K H a xs/\JJ H (.lst (qf xs lo hi)) Q
theorem Xi (K:Ψ)(h:autoParam (X.K=K) ŕ):WX X (Xq K):=by subst h;exact SI.imp λ_ _ _ _ _ gR=>by obtain⟨a,xs,h1,h2,q⟩:=gR;exact⟨a,xs,h1,h2,λ_ hp=>q.at hp⟩
theorem listS (K:Ψ)(h:autoParam (X.K=K) ŕ):IL X (.type "list") (λxs H Q=>∃ p ys,xs=[.ref p]/\(Il K H p ys\/Kc K H p ys)/\JJ H (.lst ys) Q):=
 (XX K h).imp λ_ _ _ gR=>by obtain⟨p,ys,h1,h2,q⟩:=gR;exact⟨p,ys,h1,h2,λ_ hp=>q.at hp⟩
end
noncomputable def bg (l:Addr)(H:Hp):Hp:=λb=>if b=l then none else H b
theorem bN (h:b≠l):bg l H b=H b:=if_neg h
theorem IG:f' (bg l H) H:=λb o h=>by
 by_cases e:b=l
 ·rw[bg,if_pos e]at h;cases h
 ·rwa [bN e]at h
theorem ly (e:f' H H'):f' (bg l H) (bg l H'):=λb o h=>by
 by_cases q:b=l
 ·rw[bg,if_pos q]at h;cases h
 ·rw[bN q]at h ⊢;exact e _ _ h
theorem d3:bg l (upd H l o)=bg l H:=by
 funext b;by_cases q:b=l
 ·rw[bg,bg,if_pos q,if_pos q]
 ·rw[bN q,bN q,ab q]
theorem qt (e:f' H H')(h:H l=none):f' H (bg l H'):=λb o hb=>by rw[bN<|aq hb h];exact e _ _ hb
section
variable {κ:Type}[DecidableEq κ]
noncomputable def cu (ķ:List (κ×V))(k:κ):Ç:=(ķ.find? λkv=>decide (kv.1=k)).map (·.2)
noncomputable def cO (ķ:List (κ×V))(k:κ)(v:V):List (κ×V):=
 if (ķ.any λkv=>decide (kv.1=k))=true then ķ.map (λkv=>if kv.1=k then (kv.1,v) else kv) else ķ++[(k,v)]
noncomputable def lU (ķ:List (κ×V))(k:κ):List (κ×V):=ķ.filter λkv=>decide (kv.1≠k)
theorem jK {p:κ×V}{r:List (κ×V)}{k:κ}(e:p.1=k):cu (p::r) k=some p.2:=by simp[cu,EO,e]
theorem jL {p:κ×V}{r:List (κ×V)}{k:κ}(e:¬ p.1=k):cu (p::r) k=cu r k:=by simp[cu,EO,e]
theorem nj (k:κ):∀ ķ:List (κ×V),(ķ.any λkv=>decide (kv.1=k))=(cu ķ k).isSome
 | []=>rfl
 | p::r=>by
  rw[Gz];by_cases e:p.1=k
  ·simp only[jK e,DM e,Bool.true_or,Option.isSome_some]
  ·rw[jL e,DQ e,Bool.false_or];exact nj k r
theorem iy (ķ:List (κ×V))(k:κ)(v:V):(cO ķ k v).length<=ķ.length+1:=by
 unfold cO;split
 ·rw[DH];omega
 ·rw[DT,Eu,FY];omega
theorem im {ķ:List (κ×V)}{k:κ}(v:V)(h:cu ķ k=none):cO ķ k v=ķ++[(k,v)]:=by unfold cO;rw[nj,h];exact if_neg (by decide)
theorem Lr.Kx (r:Lr o u):o.isSome=u.isSome:=by
 cases o with
 | none=>cases u with
  | none=>rfl
  | some _=>exact (r).elim
 | some _=>cases u with
  | none=>exact (r).elim
  | some _=>rfl
theorem KV.val (r:KV ķ vs)(k:κ):Lr (cu ķ k) (valueAt vs k):=by
 induction r with
 | nil=>exact FN
 | @cons p q ps qs h t ih=>
  obtain⟨h1,h2⟩:=h;by_cases e:p.1=k
  ·have e':=h1.symm.trans e;have b:valueAt (q::qs) k=some q.2:=by simp[valueAt,e']
   rw[jK e,b];exact h2
  ·have e':¬ q.1=k:=λz=>e<|h1.trans z;have b:valueAt (q::qs) k=valueAt qs k:=by simp[valueAt,e']
   rw[jL e,b];exact ih
theorem KV.any (r:KV ķ vs)(k:κ):(ķ.any λkv=>decide (kv.1=k))=vs.any λkv=>decide (kv.1=k):=by
 induction r with
 | nil=>rfl
 | cons h t ih=>rw[Gz,Gz,ih,h.1]
theorem KV.US (r:KV ķ vs)(k:κ)(ry:RelV y u):
  KV (ķ.map λkv=>if kv.1=k then (kv.1,y) else kv) (vs.map λkv=>if kv.1=k then (kv.1,u) else kv):=by
 induction r with
 | nil=>exact .nil
 | @cons p q ps qs h t ih=>
  rw[DX,DX];refine .cons ?_ ih;obtain⟨h1,h2⟩:=h;by_cases e:p.1=k
  ·rw[if_pos e,if_pos<|h1.symm.trans e];exact⟨h1,ry⟩
  ·rw[if_neg e,if_neg λz=>e<|h1.trans z];exact⟨h1,h2⟩
theorem KV.put (r:KV ķ vs)(k:κ)(ry:RelV y u):KV (cO ķ k y) (stored vs k u):=by
 unfold cO stored;rw[r.any k];by_cases e:(vs.any λkv=>decide (kv.1=k))=true
 ·rw[if_pos e,if_pos e];exact r.US k ry
 ·rw[if_neg e,if_neg e];exact Paired.snoc r ⟨rfl,ry⟩
theorem KV.drop (r:KV ķ vs)(k:κ):KV (lU ķ k) (without vs k):=by
 unfold lU without
 induction r with
 | nil=>exact .nil
 | @cons p q ps qs h t ih=>
  obtain⟨h1,h2⟩:=h;rw[EZ,EZ];by_cases e:p.1=k
  ·have a:¬ decide (p.1≠k)=true:=by simp[e]
   have b:¬ decide (q.1≠k)=true:=by simp[h1.symm.trans e]
   rw[if_neg a,if_neg b];exact ih
  ·have e':¬ q.1=k:=λz=>e<|h1.trans z;have a:decide (p.1≠k)=true:=by simp[e]
   have b:decide (q.1≠k)=true:=by simp[e']
   rw[if_pos a,if_pos b];exact .cons ⟨h1,h2⟩ ih
theorem KV.length (r:KV ķ vs):ķ.length=vs.length:=Paired.length r
theorem BR (ķ:List (κ×V))(k:κ):(lU ķ k).length<=ķ.length:=Eh _ _
end
theorem ke (r:RelV (kV k) u):(aM P w).is k u=true:=by
 cases k with
 | inl i=>obtain⟨t,e⟩:=r;subst e;exact vD P w i t
 | inr x=>obtain⟨t,e⟩:=r;subst e;exact vC P w x t
theorem r6:∀ {ks:List Key}{us:θ},Vals (ks.map kV) us->ItemsAre (aM P w) ks us
 | [],_,r=>by rw[Fu]at r;cases r;exact .nil
 | k::ks,_,r=>by
  rw[DX]at r
  cases r with
  | cons h t=>exact .cons (ke h) (r6 t)
abbrev KT (H:Hp):List (List Key×V)->List (List Key×Addr×Value)->Prop:=Paired λp q=>p.1=q.1/\H q.2.1=some (.tup (p.1.map kV))/\RelV p.2 q.2.2
theorem KT.val (r:KT H ķ xs)(k:List Key):Lr (cu ķ k) ((atKey xs k).map (·.2)):=by
 induction r with
 | nil=>exact FN
 | @cons p q ps qs h t ih=>
  obtain⟨h1,_,h2⟩:=h;by_cases e:p.1=k
  ·have e':=h1.symm.trans e;have b:atKey (q::qs) k=some q.2:=by simp[atKey,e']
   rw[jK e,b];exact h2
  ·have e':¬ q.1=k:=λz=>e<|h1.trans z;have b:atKey (q::qs) k=atKey qs k:=by simp[atKey,e']
   rw[jL e,b];exact ih
theorem KT.US (r:KT H ķ xs)(k:List Key)(ry:RelV y u):
  KT H (ķ.map λkv=>if kv.1=k then (kv.1,y) else kv) (xs.map (putAt k u)):=by
 induction r with
 | nil=>exact .nil
 | @cons p q ps qs h t ih=>
  rw[DX];refine .cons ?_ ih;obtain⟨h1,h2,h3⟩:=h;unfold putAt;by_cases e:p.1=k
  ·rw[if_pos e,if_pos<|h1.symm.trans e];exact⟨h1,h2,ry⟩
  ·rw[if_neg e,if_neg λz=>e<|h1.trans z];exact⟨h1,h2,h3⟩
theorem KT.put (r:KT H ķ xs)(k:List Key)(hb:H b=some (.tup (k.map kV)))(ry:RelV y u):
  KT H (cO ķ k y) (storedH xs k b u):=by
 have e:(ķ.any λkv=>decide (kv.1=k))=(atKey xs k).isSome:=by rw[nj,(r.val k).Kx,GS]
 unfold cO storedH;rw[e];by_cases q:(atKey xs k).isSome=true
 ·rw[if_pos q,if_pos q];exact r.US k ry
 ·rw[if_neg q,if_neg q];exact Paired.snoc r ⟨rfl,hb,ry⟩
theorem KT.keeps (r:KT H ķ xs)(ht:∀ b ys,H b=some (.tup ys)->H' b=some (.tup ys)):KT H' ķ xs:=
 Paired.JD r λ_ _ z=>⟨z.1,ht _ _ z.2.1,z.2.2⟩
theorem TQ (ok:Mf P w H h)(e:Rd H a u):Im P w H h a u:=e.ok ok
theorem rQ (ok:Mf P w H h)(e:Rd H a (.dK ķ)):ķ.length<=sizeLine/\(a==sysModules)=false/\∃ vs,KV ķ vs/\h.DictOf (aM P w) a vs:=
 TQ ok e
theorem BS (ok:Mf P w H h)(e:H a=some (.dK ķ)):ķ.length<=sizeLine/\(a==sysModules)=false/\∃ vs,KV ķ vs/\h.DictOf (aM P w) a vs:=rQ ok (.inl e)
theorem oN (ok:Mf P w H h)(e:H a=some (.tup (ks.map kV))):(tupleKind (aM P w)).is h ks a:=by
 obtain⟨_,its,r,o,h1,h2,n,h3⟩:=(ok a _ e)
 exact⟨o,its.toArray,n,h1,h2,h3,by simpa using r6 r⟩
theorem rK (ok:Mf P w H h)(e:Rd H a (.dT ķ)):ķ.length<=sizeLine/\(a==sysModules)=false/\
  ∃ xs,KT H ķ xs/\h.DictOfH (tupleKind (aM P w)) a xs:=by
 obtain⟨z,y,xs,r,o,es,ep,h1,h2,h3,h4,h5⟩:=(TQ ok e)
 refine⟨z,y,xs,r,o,es,ep,h1,h2,h3,h4,λx hx=>?_,h5⟩;have all:∀ {l:List (List Key×V)}{m:List (List Key×Addr×Value)},KT H l m->∀ x∈m,(tupleKind<|aM P w).is h x.1 x.2.1:=by
  intro l m q
  induction q with
  | nil=>intro x hx;exact nomatch hx
  | @cons p q ps qs hq t ih=>
   intro x hx;rcases E3.mp hx with e|hx
   ·subst e;exact oN ok (by rw[<- hq.1];exact hq.2.1)
   ·exact ih x hx
 exact all r x hx
theorem Z7 (ok:Mf P w H h)(e:H a=some (.dT ķ)):ķ.length<=sizeLine/\(a==sysModules)=false/\
  ∃ xs,KT H ķ xs/\h.DictOfH (tupleKind (aM P w)) a xs:=rK ok (.inl e)
def LV (H:Hp)(a:Addr)(y:V)(r:Ç):Prop:=
 (∃ ķ k,Rd H a (.dK ķ)/\y=kV k/\r=cu ķ k)\/∃ ķ k b,Rd H a (.dT ķ)/\y=.ref b/\H b=some (.tup (k.map kV))/\r=cu ķ k
def Oo (H:Hp)(a:Addr)(y v:V)(H':Hp):Prop:=
 (∃ ķ k,H a=some (.dK ķ)/\y=kV k/\ķ.length<sizeLine/\H'=upd H a (.dK (cO ķ k v))) \/
 ∃ ķ k b,H a=some (.dT ķ)/\y=.ref b/\H b=some (.tup (k.map kV))/\ķ.length<sizeLine/\H'=upd H a (.dT (cO ķ k v))
theorem LV.k {k:Key}(e:H a=some (.dK ķ)):LV H a (kV k) (cu ķ k):=.inl ⟨ķ,k,.inl e,rfl,rfl⟩
theorem Oo.k {k:Key}(e:H a=some (.dK ķ))(hl:ķ.length<sizeLine):Oo H a (kV k) v (upd H a (.dK (cO ķ k v))):=.inl ⟨ķ,k,e,rfl,hl,rfl⟩
theorem Inv.big (I:Inv X ñ σ H s):sysModules<s.heap.objs.size:=by have h:=(I.mod.glob.keeps I.bk).lt;exact Nat.lt_trans (by decide) h
theorem rR (hu:A.units+1<cLine)(I:Inv X ñ σ H s)(g:LV H a y (some v))(ry:RelV y u)(h:∀ w' s',Inv X ñ σ H s'->RelV v w'->Q w' s'):
  wpAny X.Ę A (getItem (.ref a) u) Q E s:=by
 rcases g with⟨ķ,k,e,ey,l⟩|⟨ķ,k,b,e,ey,eb,l⟩
 ·subst ey;obtain⟨z,hd,vs,rel,dd⟩:=rQ I.Iq e;obtain⟨w',hw,Oe⟩:=Lr.some_of (by rw[l];exact rel.val k);exact wpAny_getItem_of (ke ry) dd.mapOf hw (h w' _ (I.tok _) Oe)
 ·subst ey
  cases (ry);obtain⟨z,hd,xs,rel,dd⟩:=rK I.Iq e;obtain⟨w',hw,Oe⟩:=Lr.some_of (by rw[l];exact rel.val k);obtain⟨p,hp,OB⟩:=EG.mp hw;refine wpAny_getItem_heap (Hy hu) (oN I.Iq eb) dd hp ?_;rw[OB];exact h w' _ (I.tok _) Oe
theorem a23 (hu:A.units+1<cLine)(I:Inv X ñ σ H s)(g:LV H a y o)(ry:RelV y u)(h:∀ s',Inv X ñ σ H s'->Q (.bool o.isSome) s'):
  wpAny X.Ę A (compareOp .In u (.ref a)) Q E s:=by
 rcases g with⟨ķ,k,e,ey,l⟩|⟨ķ,k,b,e,ey,eb,l⟩
 ·subst ey;obtain⟨z,hd,vs,rel,dd⟩:=rQ I.Iq e;refine wpAny_in_of (ke ry) hd dd.mapOf ?_;rw[<- (rel.val k).Kx,<- l];exact h _ (I.tok _)
 ·subst ey
  cases (ry);obtain⟨z,hd,xs,rel,dd⟩:=rK I.Iq e;refine wpAny_in_heap (Hy hu) (oN I.Iq eb) hd dd ?_;have q:=(rel.val k).Kx;rw[GS]at q;rw[<- q,<- l];exact h _ (I.tok _)
theorem Dp (hu:A.units+1<cLine)(I:Inv X ñ σ H s)(g:LV H a y o)(ry:RelV y u)(h:∀ s',Inv X ñ σ H s'->Q (.bool (!o.isSome)) s'):
  wpAny X.Ę A (compareOp .NotIn u (.ref a)) Q E s:=by
 rcases g with⟨ķ,k,e,ey,l⟩|⟨ķ,k,b,e,ey,eb,l⟩
 ·subst ey;obtain⟨z,hd,vs,rel,dd⟩:=rQ I.Iq e;refine wpAny_notIn_of (ke ry) hd dd.mapOf ?_;rw[<- (rel.val k).Kx,<- l];exact h _ (I.tok _)
 ·subst ey
  cases (ry);obtain⟨z,hd,xs,rel,dd⟩:=rK I.Iq e;refine wpAny_notIn_heap (Hy hu) (oN I.Iq eb) hd dd ?_;have q:=(rel.val k).Kx;rw[GS]at q;rw[<- q,<- l];exact h _ (I.tok _)
theorem n5 (I:Inv X ñ σ H s)(mu:Zp (H a))(hs:Heap.SameBut a s.heap h')(he:∃ q,h'.get? a=some q)(new:Im X.prog X.w (upd H a ob) h' a ob):
  Inv X ñ σ (upd H a ob) { s with heap:=h',toks:=t' }:=
 I.write mu (.inl rfl) (λb q hb z=>(hs.2 b hb).trans z) he new
theorem xT (z:ķ.length<=sizeLine)(hd:(a==sysModules)=false)(rel:KV ķ vs)(dd:h'.DictOf (aM P w) a vs):
  Im P w H' h' a (.dK ķ):=⟨z,hd,vs,rel,dd⟩
theorem Ae (hu:A.units+1<cLine)(I:Inv X ñ σ H s)(g:Oo H a y v H')(ry:RelV y u)(rv:RelV v r)(h:∀ s',Inv X ñ σ H' s'->Q () s'):
  wpAny X.Ę A (setItem (.ref a) u r) Q E s:=by
 rcases g with⟨ķ,k,e,ey,l,eH⟩|⟨ķ,k,b,e,ey,eb,l,eH⟩
 ·subst ey eH;obtain⟨z,hd,vs,rel,dd⟩:=BS I.Iq e;have hz:vs.length<=sizeLine:=by rw[<- rel.length];exact z
  have hl:(cO ķ k v).length<=sizeLine:=by have:=iy ķ k v;omega
  refine wpAny_setItem_pairs (ke ry) dd λh' Su hs=>h _ ?_;have he:∃ q,h'.get? a=some q:=let ⟨q,_,_,hq,_⟩:=Su;⟨q,hq⟩;exact n5 I (by rw[e];exact FN) hs he (xT hl hd (rel.put k rv) Su)
 ·subst ey eH
  cases (ry);obtain⟨z,hd,xs,rel,dd⟩:=Z7 I.Iq e;have hz:xs.length<=sizeLine:=by rw[<- Paired.length rel];exact z
  have hl:(cO ķ k v).length<=sizeLine:=by have:=iy ķ k v;omega
  refine wpAny_setItem_heap (Hy hu) (oN I.Iq eb) dd λh' Su hs=>h _ ?_;obtain⟨q,es,ep,hq,h2,h3,h4,_,h5⟩:=Su;refine n5 I (by rw[e];exact FN) hs ⟨q,hq⟩ ⟨hl,hd,_,(rel.put k eb rv).keeps λc ys ec=>?_,q,es,ep,hq,h2,h3,h4,h5⟩;rw[ab<|cH ec e (λz=>nomatch z)];exact ec
theorem Z8 (I:Inv X ñ σ H s)(e:H a=some (.dK ķ))(ry:RelV (kV k) u)(l:cu ķ k=some v)(hm:more=[]\/∃ x,more=[x])(h:∀ w' s',Inv X ñ σ (upd H a (.dK (lU ķ k))) s'->RelV v w'->Q w' s'):wpAny X.Ę A (call (.builtin "dict.pop") (.ref a::u::more)) Q E s:=by
 obtain⟨z,hd,vs,rel,dd⟩:=BS I.Iq e;obtain⟨w',hw,Oe⟩:=Lr.some_of (by rw[<- l];exact rel.val k);have hp:(keyPart u).isSome=true:=by
  cases k with
  | inl i=>obtain⟨t,q⟩:=ry;subst q;rfl
  | inr x=>obtain⟨t,q⟩:=ry;subst q;rfl
 have ha:argsOk "dict.pop" ⟨.ref a::u::more,[]⟩:=by
  rcases hm with q|⟨x,q⟩
  ·subst q;exact PySem.F.args_dict_pop_2 _ _
  ·subst q;exact PySem.F.args_dict_pop_3 _ _ _
 refine call_meetsIn PySem.F.slot_dict_pop dd.typeIs PySem.F.entry_dict_pop ha (meets_dict_pop_there _ a (ke ry) _ hm hp)
  ⟨vs,w',dd,by rw[<- rel.length];exact z,hw,λh' Su hs=>h w' _ ?_ Oe⟩
 have he:∃ q,h'.get? a=some q:=let ⟨q,_,_,hq,_⟩:=Su;⟨q,hq⟩;exact n5 I (by rw[e];exact FN) hs he (xT (Ei (BR ķ k) z) hd (rel.drop k) Su)
def Wq (i:Expr):Prop:=∀ ov iv,subscripted i false ov iv=operate [ov,iv] (getItem ov iv)
theorem Cu {id:String}(hl:typeLookup (.type T) "__getitem__"=pure (some (.builtin id)))(hs:Wq slice)(h:wpAny (model prog w) A (eval value env) (λo s₁=>wpAny (model prog w) A (eval slice env) (λi s₂=>s₂.TypeIs o T/\wpAny (model prog w) A (getItem o i) Q E s₂) E s₁) E s):
  wpAny (model prog w) A (eval (.Subscript value slice pos) env) Q E s:=by
 refine Subscript_ (FJ h (λo s₁ h₁=>FJ h₁ (λi s₂ h₂=>?_) λ_ _ x=>x) λ_ _ x=>x);obtain⟨hT,h₂⟩:=h₂;refine DK ?_;refine DK (wpAny_specialOf hT hl ?_);have fin:wpAny (model prog w) A (subscripted slice false o i) (λr s₃=>wpAny (model prog w) A (letTemporaryGo value o r >>= λ_=>pure r) Q E s₃) E s₂:=by rw[hs o i];exact wpAny_operating (FJ h₂ (λr s₃ h₃=>DK<|wpAny_letTemporaryGo (DW h₃)) λ_ _ x=>x)
 first
  | exact DW (DK fin)
  | exact DK _
  | exact DK fin
theorem lW (I:Inv X ñ σ H s)(g:LV H a y o):s.TypeIs (.ref a) "dict":=by
 rcases g with⟨ķ,k,e,_,_⟩|⟨ķ,k,b,e,_,_,_⟩
 ·obtain⟨_,_,vs,_,dd⟩:=rQ I.Iq e;exact dd.typeIs
 ·obtain⟨_,_,xs,_,dd⟩:=rK I.Iq e;exact dd.typeIs
noncomputable def TF (td ty:TE):TE:=λσ H Q=>td σ H λx H1=>ty σ H1 λy H2=>∃ a v,x=.ref a/\LV H2 a y (some v)/\Q v H2
noncomputable def TJ (td ty tv:TE):TS:=λD σ H=>tv σ H λv H1=>td σ H1 λx H2=>ty σ H2 λy H3=>∃ a H4,x=.ref a/\Oo H3 a y v H4/\D.nx σ H4
theorem CW (hu:X.A.units+1<cLine)(ho:PE X o td)(hi:PE X i ty)(hs:Wq i):PE X (.Subscript o i pos) (TF td ty):=by intro ñ s σ H Q I h;refine Cu PySem.F.slot_dict_getitem.lookup hs (Iz (ho _ s σ H _ I h) λu s1 ⟨x,H1,I1,rx,q1⟩=>Iz (hi _ s1 σ H1 _ I1 q1) λiv s2 gR=>?_);obtain⟨y,H2,I2,ry,a,v,ex,g,q2⟩:=gR;subst ex;obtain rfl:u=Value.ref a:=rx;exact⟨lW I2 g,rR hu I2 g ry λw' s3 I3 Oe=>⟨v,H2,I3,Oe,q2⟩⟩
theorem cA (hu:X.A.units+1<cLine)(ho:PE X o td)(hi:PE X i ty)(hv:PE X value tv)(hs:swapsWith value (some (.Subscript o i pos')) pos.line X.env=pure false):
  PS X (.Assign [.Subscript o i pos'] value pos) (TJ td ty tv):=by
 intro ñ s σ H D I h;refine wpAny_Assign_Subscript (Iz (hv _ s σ H _ I h) λr s1 ⟨v,H1,I1,rv,q1⟩=>Iz (ho ñ s1 σ H1 _ I1 q1) λu s2 ⟨x,H2,I2,rx,q2⟩=>Iz (hi _ s2 σ H2 _ I2 q2) λiv s3 gR=>?_) hs;obtain⟨y,H3,I3,ry,a,H4,ex,g,q3⟩:=gR;subst ex;obtain rfl:u=Value.ref a:=rx;exact Ae hu I3 g ry rv λs4 I4=>⟨σ,H4,I4,q3⟩
theorem wf (h:Heap)(hb:sysModules<h.objs.size):Im P w H (h.push { cls:=.type "dict",data:=.dict #[] }) h.objs.size (.dK []):=
 ⟨EE _,Fw.mpr<|Ne.symm (EL hb),[],.nil,Heap.DictOf.new h⟩
noncomputable def UM:TE:=λ_ H Q=>∀ p,H p=none->Q (.ref p) (upd H p (.dK []))
theorem MB:PE X (.Dict [] [] pos) UM:=λñ s σ H Q I h=>
 wpAny_Dict_empty ⟨.ref _,_,I.laid (λ_ _ q=>DU _ q) (DV _)<|wf _ I.big,rfl,h _<|I.Iq.fresh (DV _)⟩
def wQ:List (TE×TE)->St->Hp->(List (V×V)->Ø)->Prop
 | [],_,H,Q=>Q [] H
 | (tk,tv)::r,σ,H,Q=>tk σ H λx H1=>tv σ H1 λy H2=>wQ r σ H2 λps H3=>Q ((x,y)::ps) H3
abbrev VV:List (V×V)->List (Value×Value)->Prop:=Paired λp q=>RelV p.1 q.1/\RelV p.2 q.2
def PPs (X:Cx)(pos:Pos)(keys:List (Option Expr))(values:Ì)(SE:List (TE×TE)):Prop:=
 ∀ (ñ:ζ)(s:Ê)(σ:St)(H:Hp)(Q:List (V×V)->Ø),Inv X ñ σ H s->wQ SE σ H Q->
  wpAny (model X.prog X.w) X.A (evalPairs (pairTrees keys values X.env pos)) (λvs s'=>∃ ps H',Inv X ñ σ H' s'/\VV ps vs/\Q ps H') X.xe s
theorem CQ:PPs X pos [] [] []:=λñ s σ H Q I h=>pairTrees_nil_walk ⟨[],H,I,.nil,h⟩
theorem B2 (hk:PE X k tk)(hv:PE X v tv)(hr:PPs X pos ks vs SE):
  PPs X pos (some k::ks) (v::vs) ((tk,tv)::SE):=λñ s σ H Q I h=>
 pairTrees_cons_walk (Iz (hk _ s σ H _ I h) λu s1 ⟨x,H1,I1,rx,q1⟩=>Iz (hv _ s1 σ H1 _ I1 q1) λw2 s2 ⟨y,H2,I2,ry,q2⟩=>
  Iz (hr _ s2 σ H2 _ I2 q2) λws s3 gR=>(by obtain⟨ps,H3,I3,rel,q3⟩:=gR;exact⟨_::ps,H3,I3,.cons ⟨rx,ry⟩ rel,q3⟩))
noncomputable def b8 (ķ more:ξ):ξ:=more.foldl (λacc kv=>cO acc kv.1 kv.2) ķ
theorem KV.merge:∀ {more:ξ}{rs:List (Key×Value)}{ķ:ξ}{vs:List (Key×Value)},KV more rs->KV ķ vs->KV (b8 ķ more) (merged vs rs):=by
 intro more rs ķ vs r
 induction r generalizing ķ vs with
 | nil=>intro q;exact q
 | @cons p q ps qs h t ih=>
  intro r0;have e:KV (cO ķ p.1 p.2) (stored vs q.1 q.2):=by have:=r0.put p.1 h.2;rw[<- h.1];exact this
  exact ih e
theorem bY:∀ (more ķ:ξ),(b8 ķ more).length<=ķ.length+more.length
 | [],ķ=>by show ķ.length<=ķ.length+0;omega
 | p::r,ķ=>by have h1:=bY r<|cO ķ p.1 p.2;have h2:=iy ķ p.1 p.2;show (b8 (cO ķ p.1 p.2) r).length<=_;rw[Eu];omega
theorem pc:∀ {ķ:ξ}{ws:List (Value×Value)},VV (ķ.map λkv=>(kV kv.1,kv.2)) ws->∃ rs,Carries (aM P w) ws rs/\KV ķ rs
 | [],_,r=>by rw[Fu]at r;cases r;exact⟨[],FN,.nil⟩
 | p::ķ,_,r=>by
  rw[DX]at r
  cases r with
  | @cons a b as bs h t=>
   obtain⟨rs,c,q⟩:=pc (P:=P) (w:=w) t;obtain⟨b1,b2⟩:=b;exact⟨(p.1,b2)::rs,⟨ke h.1,rfl,c⟩,.cons ⟨rfl,h.2⟩ q⟩
noncomputable def Xf (SE:List (TE×TE)):TE:=λσ H Q=>∀ p,H p=none->wQ SE σ (upd H p (.dK [])) λps H2=>H2 p=some (.dK [])/\∃ ķ:ξ,ps=ķ.map (λkv=>(kV kv.1,kv.2))/\ķ.length<=15/\Q (.ref p) (upd H2 p (.dK (b8 [] ķ)))
theorem CV (h:PPs X pos keys values SE)(QV:keys.all (·.isSome)=true)(hl:keys.length=values.length)(h0:keys≠[])(h15:keys.length<=15):PE X (.Dict keys values pos) (Xf SE):=by
 intro ñ s σ H Q I q;have hn:=I.Iq.fresh<|DV _;have I1:=I.laid (t':=s.toks) (λ_ _ q=>DU _ q) (DV _)<|wf _ I.big;refine wpAny_Dict_walk (knd:=aM _ X.w) QV hl h0 h15 (Iz (h _ _ σ _ _ I1<|q _ hn) λws s2 gR=>?_);obtain⟨ps,H2,I2,rel,e,ķ,ep,lk,q2⟩:=gR;subst ep;obtain⟨rs,c,rk⟩:=pc rel;obtain⟨z,hd,vs0,r0,dd⟩:=BS I2.Iq e
 cases r0;refine⟨rs,c,dd,λh' Su hs=>⟨.ref _,_,?_,rfl,q2⟩⟩;have hz:(b8 [] ķ).length<=sizeLine:=by have h1:=bY ķ [];rw[FY]at h1;rw[sizeLine_eq];omega
 have he:∃ q,h'.get? s.heap.objs.size=some q:=let ⟨q,_,_,hq,_⟩:=Su;⟨q,hq⟩;exact n5 I2 (by rw[e];exact FN) hs he (xT hz hd (rk.merge .nil) Su)
structure M1 (X:Cx) (o:Expr) (m:Str) (apos:Pos) (e:Expr) (Jg:Pos):Prop where
 base:attributeBase o m X.env (eval o X.env)=eval o X.env
 IX:((backTo Jg (starEach [e] X.env)).all (λx=>!x.1)&&(backToKw Jg (keywordEach [] X.env)).all (λx=>x.1.isSome)
  && decide (([e]:Ì).length+([]:List Keyword).length+(if ([]:List Keyword).isEmpty then 0 else 1)<30))=true
 line:(apos.endLine==Jg.line)=true
 trees:backTo Jg (starEach [e] X.env)=[(false,eval e X.env)]
def IsD (H:Hp)(a:Addr):Prop:=(∃ ķ,Rd H a (.dK ķ))\/∃ ķ,Rd H a (.dT ķ)
theorem VC (I:Inv X ñ σ H s)(d:IsD H a):
  s.TypeIs (.ref a) "dict"/\(∀ b,Value.ref a=.ref b->∃ ob,s.heap.get? b=some ob/\ob.dict=none)/\(a==sysModules)=false:=by
 rcases d with⟨ķ,e⟩|⟨ķ,e⟩
 ·obtain⟨_,hd,vs,_,dd⟩:=rQ I.Iq e;refine⟨dd.typeIs,λb q=>?_,hd⟩
  cases q;obtain⟨ob,_,_,h1,h2,_⟩:=dd;exact⟨ob,h1,h2.2.1⟩
 ·obtain⟨_,hd,xs,_,dd⟩:=rK I.Iq e;refine⟨dd.typeIs,λb q=>?_,hd⟩
  cases q;obtain⟨ob,_,_,h1,h2,_⟩:=dd;exact⟨ob,h1,h2.2.1⟩
noncomputable def AD (td ty:TE):TE:=λσ H Q=>td σ H λx H1=>∃ a,x=.ref a/\IsD H1 a/\ty σ H1 λy H2=>∃ ķ k v,H2 a=some (.dK ķ)/\y=kV k/\cu ķ k=some v/\Q v (upd H2 a (.dK (lU ķ k)))
theorem Ba (ho:PE X o td)(he:PE X e ty)(m:M1 X o "pop" apos e Jg):PE X (.Call (.Attribute o "pop" apos) [e] [] Jg) (AD td ty):=by intro ñ s σ H Q I h;refine wpAny_Call_method m.base m.IX m.line PySem.F.plainAttrs_dict PySem.F.slot_dict_pop PySem.F.type_dict_pop (Iz (ho _ s σ H _ I h) λu s1 gR=>?_);obtain⟨x,H1,I1,rx,a,ex,d,q1⟩:=gR;subst ex;obtain rfl:u=Value.ref a:=rx;obtain⟨t1,t2,_⟩:=VC I1 d;refine⟨t1,t2,?_⟩;rw[m.trees];refine Ha rfl<|Calls.evalArgs_plain (Calls.spliced_cons (Iz (he _ s1 σ H1 _ I1 q1) λiv s2 ⟨y,H2,I2,ry,ķ,k,v,ea,ey,l,q2⟩=>Calls.spliced_nil ?_));subst ey;exact Z8 I2 ea ry l (.inl rfl) λw' s3 I3 Oe=>⟨v,_,I3,Oe,q2⟩
def Ny (h:Heap)(d:Addr)(es:Ñ)(ep:Nat):Prop:=∃ o,h.get? d=some o/\o.ExactDict/\o.data=.dict es ep
theorem Ny.to (x:Ny h d es ep)(k:∀ o,h.get? d=some o->h'.get? d=some o):Ny h' d es ep:=let ⟨o,a,r⟩:=x;⟨o,k o a,r⟩
section
variable {prog:É}{w:World}{A:Ë}{d:Addr}{es:Ñ}{i ep:Nat}
theorem Ny.ty {s:Ê}(x:Ny s.heap d es ep):s.TypeIs (.ref d) "dict":=let ⟨o,a,c,_⟩:=x;⟨o,a,c.1⟩
theorem AS (hd:(d==sysModules)=false)(x:Ny s.heap d es ep)(hQ:Q (.ref s.heap.objs.size) { s with heap:=s.heap.push { cls:=.type "dict_keyiterator",data:=.fields #[.ref d,.int 0 0,.int es.size 0,.int ep 0] } }):
  wpAny (model prog w) A (pyIter (.ref d)) Q E s:=by
 have T:=x.ty;obtain⟨o,a,_,b⟩:=x;refine wpAny_pyIter_slot T F.slot_dict_iter (GH F.slot_dict_iter T F.entry_dict_iter ?_<|F.args_dict_iter_1 _);unfold Builtin.«dict.__iter__» Builtin.Dict.dictSlotNone Builtin.Dict.showsAll;refine DK<|DK (Hb T (DW ?_));refine DK (DW ?_);rw[if_neg (by rw[hd];intro z;cases z)];refine DK<|DW (DK<|HG a b (DK<|wpAny_dictEpoch a b (DK<|GQ (DW ⟨_,rfl,"dict_keyiterator",_,⟨_,Eb _ rfl,rfl⟩,F.slot_dict_keyiterator_next.lookup,?_⟩))));exact hQ
theorem AT (I:s.heap.IsKeyIter it d i es.size ep)(x:Ny s.heap d es ep)(hi:i<es.size)(hQ:∀ h',h'.IsKeyIter it d (i+1) es.size ep->Heap.SameBut it s.heap h'->Q (some es[i].key) { s with heap:=h' }):wpAny (model prog w) A (pyNext (.ref it)) Q E s:=by
 have T:=I.typeIs;obtain⟨u,u1,u2,u3⟩:=id I;obtain⟨o,a,_,b⟩:=x;refine DK<|wpAny_attempt (Gi T Gx (GH Gx T F.entry_dict_keyiterator_next ?_<|F.args_dict_keyiterator_next_1 _));refine DK<|DW (DK (DK ?_));refine DK<|Gn T (DW<|DK (wpAny_fieldsOf u1 u3 ?_));refine DK<|DW (DK (HG a b ?_));rw[if_neg<|by simp];refine DK<|DW (DK (wpAny_dictEpoch a b ?_));rw[if_neg<|by simp];refine DW ?_;simp only[GC,Fg hi];refine DK<|DK (Gn T<|DW (DK (wpAny_isOneOf_keyiter T ?_)));show wpAny _ _ (setField _ 1 _ >>= _) _ _ s;refine DK (wpAny_setField u1 u3 (by simp) ?_);have J:(s.heap.update it<|Obj.mapFields (·.setIfInBounds 1 (rawInt<|(i)+1))).IsKeyIter it d (i+1) es.size ep:=⟨_,Heap.get?_update_self _ u1<|Obj.isFreed_of_fields (Obj.data_mapFields u3 _),(Obj.cls_mapFields ..).trans u2,by rw[Obj.data_mapFields u3];simp[rawInt]⟩
 refine DK (Fn<|DK (wpAny_isOneOf_keyiter J.typeIs ?_));exact DW (DW ⟨_,rfl,DW<|hQ _ J (Heap.SameBut.update ..)⟩)
theorem CC (hh:A.handled=none)(I:s.heap.IsKeyIter it d i es.size ep)(x:Ny s.heap d es ep)(hi:es.size<=i)(hQ:∀ h',Heap.ExtBut it s.heap h'->Q none { s with heap:=h' }):wpAny (model prog w) A (pyNext (.ref it)) Q E s:=by have T:=I.typeIs;obtain⟨u,u1,u2,u3⟩:=id I;obtain⟨o,a,_,b⟩:=x;refine DK<|wpAny_attempt (Gi T Gx (GH Gx T F.entry_dict_keyiterator_next ?_<|F.args_dict_keyiterator_next_1 _));refine DK<|DW (DK (DK ?_));refine DK<|Gn T (DW<|DK (wpAny_fieldsOf u1 u3 ?_));refine DK<|DW (DK (HG a b ?_));rw[if_neg<|by simp];refine DK<|DW (DK (wpAny_dictEpoch a b ?_));rw[if_neg<|by simp];refine DW ?_;simp only[GC,Array.getElem?_eq_none hi];refine DK<|DK (Gn T (DW ?_));show wpAny _ _ (setField _ 0 .none >>= _) _ _ s;refine DK (wpAny_setField u1 u3 (by simp) ?_);refine DK ?_;refine DK (GQ ?_<|by size_fits);refine DK<|wpAny_of_eq (by first|rfl|(rfl)) (GQ ?_<|by size_fits);refine DK (wpAny_handled ?_);rw[hh];refine DK<|DW (wpAny_throw ?_);refine DK<|wpAny_isInstance ⟨_,Eb _ rfl,rfl⟩ isSubtype_stop (DW ?_);exact hQ _ (((Heap.SameBut.update ..).extBut.push _).push _)
theorem zw (hh:A.handled=none)(I:Addr)(Qt:d≠I):Walks prog w A I [I,d] [I] es.size (λi v=>(es[i]?).map (·.key)=some v) (λi h=>h.IsKeyIter I d i es.size ep/\Ny h d es ep) where
 sub:=λb hb=>by simp at hb;simp[hb]
 frame:=λ_ _ _ st hk=>⟨st.1.at λo e=>hk I (by simp) o e,st.2.to λo e=>hk d (by simp) o e⟩
 item:=λi s Q E hi st hQ=>AT st.1 st.2 hi λh' J hs=>hQ _ h' _ (by rw[Fg hi];rfl) ⟨J,st.2.to λo e=>hs.extBut d o Qt e⟩ λb o hb e=>hs.extBut b o (λh=>hb<|by simp[h]) e
 done:=λs Q E st hQ=>CC hh st.1 st.2 (DV _) λh' he=>hQ h' _ λb o hb e=>he b o (λh=>hb<|by simp[h]) e
 self:=λ_ _ _ _ st hQ=>wpAny_pyIter_keyiter st.1 hQ
theorem yp (lo:(d==sysModules)=false):W.KdlSrc prog w "dict" d d es.size (λi v=>(es[i]?).map (·.key)=some v) (λh=>Ny h d es ep) where
 type:=λ_ x=>x.ty
 there:=λ_ gR=>by obtain⟨_,a,_⟩:=gR;exact⟨E8 a,E8 a⟩
 keep:=λ_ _ x hk=>x.to λo e=>hk d (.inl rfl) o e
 notList:=by decide
 notTuple:=by decide
 hint:=λ_ _ _ _ x hq=>W.kdl_hint_dict x.ty hq
 iter:=λ_ s hh x=>⟨_,_,λ_ _ hq=>AS lo x hq,zw hh _ (let ⟨_,a,_⟩:=x;EL<|E8 a),⟨⟨_,Eb _ rfl,rfl,rfl⟩,x.to λ_ e=>DU _ e⟩⟩
end
theorem pW (lo:(d==sysModules)=false):MeetsIn prog w (Builtin.«dict.__len__» ⟨[.ref d],[]⟩) (λ_ R s=>∃ es ep,Ny s.heap d es ep/\R (.ok (.ret (.int es.size s.toks))) { s with toks:=s.toks+1 }):=
 .of_wp λA R s gR=>by obtain⟨es,ep,⟨o,a,_,b⟩,h⟩:=gR;show wpAny _ _ (dictSize d >>= _) _ _ s;refine DK<|DK (HG a b (DW ?_));refine DK<|wpAny_pendingCount_other lo (wpAny_ret_mkInt ?_);exact h
theorem CB (lo:(d==sysModules)=false)(x:Ny s.heap d es ep)(fit:(es.size:Int)<2 ^ 63)(h:Q (.int es.size (s.toks+1)) { s with toks:=s.toks+1+1 }):wpAny (model prog w) A (call (.builtin "len") [.ref d]) Q E s:=by refine Calls.call_function_entry kind_len plain_len entry_len (args_len1 _) ?_;refine DK (DW ?_);refine DK<|Gi x.ty F.slot_dict_len (call_meetsIn F.slot_dict_len x.ty F.entry_dict_len (F.args_dict_len_1 _) (pW lo) ⟨es,ep,x,?_⟩);refine DK<|Fn (DW<|DK (wpAny_letGo ?_));show wpAny _ _ (if _ ≥ 2 ^ 63 then _ else _) _ _ _;rw[if_neg<|by omega];exact DK (wpAny_mkInt<|DW ⟨_,rfl,h⟩)
section
variable {X:Cx}{ñ:ζ}{σ:St}{H:Hp}{s:Ê}{d:Addr}{o:Obj}
def NF (X:Cx)(d:Addr):Prop:=∀ o u,X.H₀ d≠some (.frz o u)
theorem Inv.nf (I:Inv X ñ σ H s)(hd:H d=some (.dK ķ)):NF X d:=λo u z=>by have:=I.base.O0 d o u z;rw[hd]at this;cases this
theorem nu {o:HO}{H:Hp}(x:Im P w H h a o)(hd:H d=some u)(h1:∀ b,u≠.own b)(h2:∀ xs,u≠.tup xs):Im P w (upd H d v) h a o:=
 x.JM (λ_ _ _ q=>q) (λb q=>by rw[ab (λz=>by rw[z,hd]at q;exact h1 _<|Option.some.inj q)];exact q) λb xs q=>by rw[ab (λz=>by rw[z,hd]at q;exact h2 _<|Option.some.inj q)];exact q
theorem Inv.Ql {u v:HO}(I:Inv X ñ σ H s)(hd:H d=some u)(h1:∀ b,u≠.own b)(h2:∀ xs,u≠.tup xs)(h3:∀ ps,u≠.tbl ps)(h4:∀ o' u',X.H₀ d=some (.frz o' u')->False)(new:Im X.prog X.w (upd H d v) s.heap d v):Inv X ñ σ (upd H d v) s where
 ok:=I.ok
 os:=I.os
 bare:=I.bare
 base:=⟨I.base.keep,I.base.slot,λb ob q n hx=>by rw[ab (λz=>by have:=I.base.free b ob q n hx;rw[z,hd]at this;cases this)];exact I.base.free b ob q n hx,I.base.there,
  λb xs q=>by have:=I.base.OH b xs q;rw[ab (λz=>by rw[z,hd]at this;exact h2 _<|Option.some.inj this)];exact this,
  λb ob w q=>(ab (λz:b=d=>h4 ob w (show X.H₀ d=some _ by rw[<- z];exact q))).trans<|I.base.O0 b ob w q,
  λb ps q=>by obtain⟨m,e⟩:=I.base.OI b ps q;exact⟨m,by rw[ab (λz=>by rw[z,hd]at e;exact h3 _<|Option.some.inj e)];exact e⟩⟩
 loc:=I.loc
 cell:=I.cell
 free:=by rw[ab (λz=>by have:=I.free;rw[z,hd]at this;cases this)];exact I.free
 Ky:=λx c e=>by rw[ab (λz=>by have:=I.Ky x c e;rw[z,hd]at this;cases this)];exact I.Ky x c e
 pin:=λp hp=>by obtain⟨a1,a2,a3⟩:=I.pin p hp;exact⟨a1,by rw[ab (λz=>by rw[z,hd]at a2;cases a2)];exact a2,a3⟩
 Iq:=λa ob e=>by
  by_cases ha:a=d
  ·subst ha;rw[ag]at e;cases e;exact new
  ·rw[ab ha]at e;exact nu (I.Iq a ob e) hd h1 h2
 len:=I.len
theorem Inv.freeze (I:Inv X ñ σ H s)(hd:H d=some (.dK ķ))(ho:s.heap.get? d=some o):Inv X ñ σ (upd H d (.frz o (.dK ķ))) s:=
 I.Ql hd (λ_ z=>nomatch z) (λ_ z=>nomatch z) (λ_ z=>nomatch z) (λo u z=>I.nf hd o u z) ⟨ho,nu (I.Iq d _ hd) hd (λ_ z=>nomatch z) λ_ z=>nomatch z⟩
theorem Inv.UG (I:Inv X ñ σ H s)(hd:H d=some (.frz o (.dK ķ)))(nf:NF X d):Inv X ñ σ (upd H d (.dK ķ)) s:=
 I.Ql hd (λ_ z=>nomatch z) (λ_ z=>nomatch z) (λ_ z=>nomatch z) (λo u z=>nf o u z) (nu (I.Iq d _ hd).2 hd (λ_ z=>nomatch z) λ_ z=>nomatch z)
end
noncomputable def Zs (o:Obj)(d:Addr):It:=
 ⟨λi H=>∃ ķ kv,H d=some (.frz o (.dK ķ))/\ķ[i]?=some kv,λi H x H'=>H'=H/\∀ ķ,H d=some (.frz o (.dK ķ))->∃ kv,ķ[i]?=some kv/\x=kV kv.1,λi H=>∃ ķ,H d=some (.frz o (.dK ķ))/\ķ.length<=i⟩
noncomputable def WY (o:Obj)(d:Addr):It:=
 ⟨λi H=>∃ ķ kv,H d=some (.frz o (.dK ķ))/\ķ[i]?=some kv,λi H x H'=>H'=H/\∀ ķ,H d=some (.frz o (.dK ķ))->∃ kv,ķ[i]?=some kv/\x=kv.2,λi H=>∃ ķ,H d=some (.frz o (.dK ķ))/\ķ.length<=i⟩
theorem tX (h:(aM P w).is k u=true):RelV (kV k) u:=by
 rcases bc h with⟨i,t,rfl,rfl⟩|⟨x,t,rfl,rfl⟩
 ·exact⟨t,rfl⟩
 ·exact⟨t,rfl⟩
section
variable {d:Addr}{o:Obj}{es:Ñ}{ep:Nat}
theorem Inv.frd (I:Inv X ñ σ H s)(hd:H d=some (.frz o (.dK ķ)))(ed:o.data=.dict es ep):∃ vs,KV ķ vs/\s.heap.DictAt (aM X.prog X.w) d vs ep/\vs.length=es.size:=by obtain⟨ho,z,lo,vs,r,ob,es',ep',e1,c1,c2,c3,c4,c5⟩:=I.Iq d _ hd;rw[ho]at e1;cases e1;rw[ed]at c2;cases c2;refine⟨vs,r,⟨o,es,ho,c1,ed,c3,c4,c5⟩,?_⟩;have:=c4.length;rw[<- this];simp
theorem ze {tg:Expr}{P:É}{w:World}{K:Ψ} (it d:Addr) (o:Obj) {es:Ñ}{ep:Nat} (ed:o.data=.dict es ep):wD P w K tg (Zs o d) [it] it (λi h=>h.IsKeyIter it d i es.size ep) where
 mem:=by simp
 obj:=λi h st b hb=>by
  have e:b=it:=by simpa using hb
  subst e;obtain⟨o,e,c,d⟩:=st;exact⟨o,e,λv z=>by rw[d]at z;cases z⟩
 keep:=λi h h' st k=>st.at λo e=>k it (by simp) o e
 item:=by
  intro X hP hw hK hc i ñ s σ H E I hf st hg;subst hP hw hK;obtain⟨ķ,kv,hd,hx⟩:=hg;obtain⟨vs,r,da,hl⟩:=I.frd hd ed;obtain⟨f0,f1,f2,f3,f4,f5⟩:=hf it (by simp);obtain⟨q,hq,hr⟩:=Paired.at r hx;rw[<- hl]at st;refine wpAny_pyNext_dict_item st da hq λkey h' VO OK sb=>?_;have I1:Inv X _ σ H { s with heap:=h' }:=I.turned (λb o hb e=>(sb.2 b hb).trans e) f0 f1 f3 f4 f5;obtain⟨o',e',c',d'⟩:=id OK;rw[hl]at OK;refine⟨key,rfl,rp e' c' d' (by decide) ⟨kV kv.1,H,I1,?_,⟨rfl,λXZ Oi=>?_⟩,OK,λb hb=>(hf b hb).1⟩⟩
  ·rw[hr.1];exact tX VO
  ·rw[hd]at Oi;cases Oi;exact⟨kv,hx,rfl⟩
 done:=by intro X hP hw hK hc i ñ s σ H E I hf st hg;subst hP hw hK;obtain⟨ķ,hd,hx⟩:=hg;obtain⟨vs,r,da,hl⟩:=I.frd hd ed;obtain⟨f0,f1,f2,f3,f4,f5⟩:=hf it (by simp);rw[<- hl]at st;have:=KV.length r;exact wpAny_pyNext_dict_end (I.ok.hd hc) st da (Ed<|by omega) λh' eb=>⟨rfl,I.turned (λb o hb e=>eb b o hb e) f0 f1 f3 f4 f5⟩
 self:=λ_ _ _ _ _ st h=>wpAny_pyIter_keyiter st h
theorem zd {tg:Expr}{P:É}{w:World}{K:Ψ} (it d:Addr) (o:Obj) {es:Ñ}{ep:Nat} (ed:o.data=.dict es ep):wD P w K tg (WY o d) [it] it (λi h=>h.IsValIter it d i es.size ep) where
 mem:=by simp
 obj:=λi h st b hb=>by
  have e:b=it:=by simpa using hb
  subst e;obtain⟨o,e,c,d⟩:=st;exact⟨o,e,λv z=>by rw[d]at z;cases z⟩
 keep:=λi h h' st k=>st.at λo e=>k it (by simp) o e
 item:=by intro X hP hw hK hc i ñ s σ H E I hf st hg;subst hP hw hK;obtain⟨ķ,kv,hd,hx⟩:=hg;obtain⟨vs,r,da,hl⟩:=I.frd hd ed;obtain⟨f0,f1,f2,f3,f4,f5⟩:=hf it (by simp);obtain⟨q,hq,hr⟩:=Paired.at r hx;rw[<- hl]at st;refine wpAny_pyNext_values_item st da hq λh' OK sb=>?_;have I1:Inv X _ σ H { s with heap:=h' }:=I.turned (λb o hb e=>(sb.2 b hb).trans e) f0 f1 f3 f4 f5;obtain⟨o',e',c',d'⟩:=id OK;rw[hl]at OK;refine⟨q.2,rfl,rp e' c' d' (by decide) ⟨kv.2,H,I1,hr.2,⟨rfl,λXZ Oi=>?_⟩,OK,λb hb=>(hf b hb).1⟩⟩;rw[hd]at Oi;cases Oi;exact⟨kv,hx,rfl⟩
 done:=by intro X hP hw hK hc i ñ s σ H E I hf st hg;subst hP hw hK;obtain⟨ķ,hd,hx⟩:=hg;obtain⟨vs,r,da,hl⟩:=I.frd hd ed;obtain⟨f0,f1,f2,f3,f4,f5⟩:=hf it (by simp);rw[<- hl]at st;have:=KV.length r;exact wpAny_pyNext_values_end (I.ok.hd hc) st da (Ed<|by omega) λh' eb=>⟨rfl,I.turned (λb o hb e=>eb b o hb e) f0 f1 f3 f4 f5⟩
 self:=λ_ _ _ _ _ st h=>wpAny_pyIter_valiter st h
end
theorem Cq:∀ {us:θ},xs.length=us.length->(∀ (j:Nat)(x:V)(u:Value),xs[j]?=some x->us[j]?=some u->RelV x u)->Vals xs us:=by
 induction xs with
 | nil=>intro us hl h;cases us with
  | nil=>exact .nil
  | cons u us=>cases hl
 | cons x xs ih=>intro us hl h;cases us with
  | nil=>cases hl
  | cons u us=>exact .cons (h 0 x u rfl rfl) (ih (by simpa using hl) λj y v hy hv=>h (j+1) y v (hy)<|hv)
noncomputable def sgn (x:Str)(i:Nat):Str:=⟨#[x.cps.getD i 0]⟩
noncomputable def Its (x:Str):It:=⟨λi _=>i<x.cps.size,λi H v H'=>H'=H/\v=.str (sgn x i),λi _=>i=x.cps.size⟩
theorem uF {tg:Expr}{P:É}{w:World}{K:Φ} (it:Addr) (x:Str) (t:Tok) (ty:String) (SY:["enumerate","zip","dict_itemiterator","dict_reverseitemiterator","odict_iterator","itertools.zip_longest","itertools.pairwise"].contains ty=false)
  (W:∀ A:Ë,A.handled=none->Walks P w A it [it] [it] x.cps.size (SignAt x) (λi h=>h.IsStrIter it ty x t i))
  (Yg:∀ (A:Ë)(i:Nat)(s:Ê)(Q:ρ)(E:ρ),s.heap.IsStrIter it ty x t i->Q (.ref it) s->wpAny (model P w) A (pyIter (.ref it)) Q E s):wD P w K tg (Its x) [it] it (λi h=>h.IsStrIter it ty x t i) where
 mem:=by simp
 obj:=λi h st b hb=>by
  have e:b=it:=by simpa using hb
  subst e;obtain⟨o,e,c,d⟩:=st;exact⟨o,e,λv z=>by rw[d]at z;cases z⟩
 keep:=λi h h' st k=>by obtain⟨o,e,r⟩:=st;exact⟨o,k it (by simp) o e,r⟩
 item:=by intro X hP hw hK hc i ñ s σ H E I hf st hg;obtain⟨f0,f1,f2,f3,f4,f5⟩:=hf it (by simp);refine (W X.A<|I.ok.hd hc).item i s _ _ hg st λv h' tk hv OK kk=>?_;obtain⟨c,u,hcx,rfl⟩:=hv;have I1:Inv X _ σ H { s with heap:=h',toks:=tk }:=I.turned (λb o hb e=>kk b o (by simpa using hb) e) f0 f1 f3 f4 f5;obtain⟨o',e',c',d'⟩:=id OK;refine⟨_,rfl,rp e' c' d' SY ⟨.str _,H,I1,⟨u,?_⟩,⟨rfl,rfl⟩,OK,λb hb=>(hf b hb).1⟩⟩;unfold sgn;rw[Array.getD_eq_getD_getElem?,hcx];rfl
 done:=by intro X hP hw hK hc i ñ s σ H E I hf st hg;obtain⟨f0,f1,f2,f3,f4,f5⟩:=hf it (by simp);have hi:=hg;subst hi;exact (W X.A<|I.ok.hd hc).done s _ _ st λh' tk kk=>⟨rfl,I.turned (λb o hb e=>kk b o (by simpa using hb) e) f0 f1 f3 f4 f5⟩
 self:=λA i s Q E st h=>Yg A i s Q E st h
section
noncomputable def a1M (tl:TE):TI:=λσ H R=>tl σ H λv H1=>∃ x,v=.str x/\R (Its x) H1
theorem V2 (hl:PE X l tl):PI X tg l (a1M tl):=by
 intro ñ s σ H R I h;refine Iz (hl _ s σ H _ I h) λv s1 gR=>?_;obtain⟨z,H1,I1,r1,q1⟩:=gR;obtain⟨x,rfl,q⟩:=q1;obtain⟨t,rfl⟩:=r1;have fp:∀ (b:Addr),b∈[s1.heap.objs.size]->lI X _ H1 b:=λb hb=>by
  have e:b=s1.heap.objs.size:=by simpa using hb
  subst e;exact I1.OW (DV _) (I1.Iq.fresh<|DV _)
 cases ha:x.cps.all _
 ·refine wpAny_pyIter_wide ha ?_;exact⟨s1.heap.objs.size,[s1.heap.objs.size],_,_,H1,rfl,I1.kept λb o e=>DU _ e,uF _ x t "str_iterator" (by decide) (λA' hA=>Walks.strWide hA _ x t) λA i s Q E st h=>wpAny_pyIter_striter_wide st h,⟨_,Eb _ rfl,rfl,rfl⟩,fp,q⟩
 ·refine wpAny_pyIter_ascii ha ?_;exact⟨s1.heap.objs.size,[s1.heap.objs.size],_,_,H1,rfl,I1.kept λb o e=>DU _ e,uF _ x t "str_ascii_iterator" (by decide) (λA' hA=>Walks.strAscii hA _ x t) λA i s Q E st h=>wpAny_pyIter_striter_ascii st h,⟨_,Eb _ rfl,rfl,rfl⟩,fp,q⟩
abbrev _root_.Ð:=List Bool
theorem Ap {bs:Ð}:(List.range bs.length).all (λi=>bs.getD i true)=bs.all id:=by
 rw[Fe];simp only[Fs,Eg];constructor
 ·intro h b hb;obtain⟨i,hi,rfl⟩:=FP hb;have:=h i hi;rwa [DG,DF hi]at this
 ·intro h i hi;rw[DG,DF hi];exact h _ (EB hi)
theorem fX (K:Ψ)(hc:X.calm=true)(hK:autoParam (X.K=K) ŕ):IL X (.builtin "all") (λxs H Q=>∃ (p:Addr)(bs:Ð),xs=[.ref p]/\Il K H p (bs.map V.bl)/\Q (.bl (bs.all id)) H):=by
 subst hK;intro ñ s σ H xs us Q I r h;obtain⟨p,bs,rfl,hq,q⟩:=h;obtain⟨u,rfl,r1⟩:=gG r
 cases r1;obtain⟨its,rv,pl,hz⟩:=I.list hq;have hlen:its.length=bs.length:=by have:=rv.length;rw[DH]at this;omega
 have hpn:p≠s.heap.objs.size:=by obtain⟨_,_,e,_⟩:=pl;exact EL (E8 e)
 refine call_all_walk ?_;refine GP pl.isList ?_;refine⟨s.heap.objs.size,[s.heap.objs.size,p],[s.heap.objs.size],its.toArray.size,_,_,λi=>bs.getD i true,rfl,Walks.list (A:=X.A.in1) (I.ok.hd hc) _ p hpn _,⟨⟨_,Eb _ rfl,rfl,rfl⟩,pl.isList.push _⟩,λi v s' Q' E' hv hQ=>?_,λh' tk hk=>?_⟩
 ·have hv:its[i]?=some v:=by simpa using hv
  have hi:i<bs.length:=by rw[<- hlen];exact (DJ.mp hv).1
  have hb:(bs.map V.bl)[i]?=some (V.bl bs[i]):=by rw[DN,DF hi];rfl
  obtain⟨w1,e1,r1⟩:=rv.get hb;rw[hv]at e1;cases e1;obtain rfl:v=Value.bool bs[i]:=r1;dsimp only at hQ;rw[DG,DF hi]at hQ;exact FG hQ
 ·have e:its.toArray.size=bs.length:=by simp[hlen]
  rw[e,Ap];refine⟨.bl _,H,I.kept λb o e=>hk b o (λz=>?_)<|DU _ e,rfl,q⟩;have z':b=s.heap.objs.size:=by simpa using z
  exact absurd (E8 e) (by rw[z'];exact Fc _)
theorem qg (hc:X.calm=true):IL X (.type "list") (λxs H Q=>∃ d ķ,xs=[.ref d]/\Rd H d (.dK ķ)/\JJ H (.lst (ķ.map λkv=>kV kv.1)) Q):=by
 intro ñ s σ H xs us Q I r h;obtain⟨d,ķ,rfl,hd,q⟩:=h;obtain⟨u,rfl,rx⟩:=gG r
 cases rx;obtain⟨z,lo,vs,rel,o,es,ep,ho,hx,RN,hk,hp,VL⟩:=(hd.ok I.Iq)
 have hl:es.size=vs.length:=by rw[<- hp.length];simp
 have T7:=KV.length rel;refine W.kdl_call (yp lo) (I.ok.hd hc) ⟨o,ho,hx,RN⟩ (by rw[hl,<- T7];exact z) λh' tk acc c keep Ka QW=>?_;have VE:Vals (ķ.map λkv=>kV kv.1) acc.toList:=by
  refine Cq (by have h1:=QW.1;rw[<- GL]at h1;rw[DH,h1,hl,T7]) λj x u' hx hu=>?_;rw[DN]at hx;obtain⟨kv,ekv,rfl⟩:=EG.mp hx;obtain⟨q',P',RJ⟩:=Paired.at rel ekv;have hj:j<es.size:=by rw[hl];exact (DJ.mp P').1
  have h1:(es[j]?).map _=some u':=QW.2 j u' (by rw[<- FW];exact hu);rw[Fg hj]at h1;have h2:=(Pairs.get? hp (by rw[FW,Fg hj]) P').1;have:=Option.some.inj h1;rw[<- this,RJ.1];exact tX h2
 refine⟨.ref _,_,I.laid keep (DV _)<|show Im _ X.w _ h' _ (.lst _) from ⟨by rw[DH];exact z,acc.toList,c,VE,?_⟩,rfl,q.at (I.Iq.fresh<|DV _)⟩;simpa using Ka
theorem MP:IL X (.builtin "len") (λxs H Q=>∃ d ķ,xs=[.ref d]/\Rd H d (.dK ķ)/\Q (.int ķ.length) H):=by
 intro ñ s σ H xs us Q I r h;obtain⟨d,ķ,rfl,hd,q⟩:=h;obtain⟨u,rfl,rx⟩:=gG r
 cases rx;obtain⟨z,lo,vs,rel,o,es,ep,ho,hx,RN,hk,hp,VL⟩:=(hd.ok I.Iq)
 have hl:es.size=ķ.length:=by rw[KV.length rel,<- hp.length];simp
 refine CB lo ⟨o,ho,hx,RN⟩ (by have:ķ.length<=2 ^ 24:=z;omega) ?_;rw[hl];exact⟨.int _,H,I.tok _,⟨_,rfl⟩,q⟩
theorem lX:IL X (.builtin "len") (λxs H Q=>∃ d ķ,xs=[.ref d]/\H d=some (.dK ķ)/\Q (.int ķ.length) H):=MP.imp λ_ _ _ gR=>by obtain⟨d,ķ,e,h,q⟩:=gR;exact⟨d,ķ,e,.inl h,q⟩
variable {C:Addr}{sp:Sp}{x m:Str}{ta:TE}
theorem qy (he:PE X o ta)(D:Dm X.prog X.w X.K X.mg X.base k C m ps sp)(hr:IA k X.A)(ht:autoParam (eval (.Call (.Attribute o m apos) [] [] pos) X.env=(do
   let ov <- eval o X.env
   standAt apos.atName
   let (f,first) <- holding [ov] (getMethod ov m pl)
   callWith pos f first (backTo pos (starEach [] X.env)) (backToKw pos (keywordEach [] X.env)))) ŕ):
  PE X (.Call (.Attribute o m apos) [] [] pos) (qm C m sp [] E0 ta wR):=by
 obtain⟨f,fd,cl,hm,b,F⟩:=D;exact B6 he cl hm F hr b .nil lP ht
theorem zA (D:Dk X.prog X.w X.K X.mg X.base k x C ps sp)(hr:IA (k+1) X.A)(hg:Gl X x)(Mb:autoParam (Ė x) ĩ):
  PE X (.Call (.Name x p) [] [] pos) (yi C sp [] E0 wR):=by
 obtain⟨f,fd,hm,M,b,F⟩:=D;exact B7 M F hr hg hm b .nil lP Mb
noncomputable def UL (Cs:Addr->Prop)(m:Str)(sp:Addr->Sp)(ta:TE):TE:=λσ H Q=>ta σ H λx H1=>∃ a C dx fs,x=.ref a/\Cs C/\H1 a=some (.ins C dx fs)/\fs.lookup m=none/\sp C [x] H1 Q E0
theorem qz {sp:Addr->Sp}(he:PE X o ta)(D:∀ C,Cs C->Dm X.prog X.w X.K X.mg X.base k C m ps (sp C))(hr:IA k X.A)(ht:autoParam (eval (.Call (.Attribute o m apos) [] [] pos) X.env=(do
   let ov <- eval o X.env
   standAt apos.atName
   let (f,first) <- holding [ov] (getMethod ov m pl)
   callWith pos f first (backTo pos (starEach [] X.env)) (backToKw pos (keywordEach [] X.env)))) ŕ):
  PE X (.Call (.Attribute o m apos) [] [] pos) (UL Cs m sp ta):=by
 intro ñ s σ H Q I h;refine W.methodCall_KW (Iz (he _ s σ H _ I h) λu s1 gR=>?_) ht;obtain⟨x,H1,I1,rx,a,C,dx,fs,ex,hC,ea,l,q⟩:=gR;subst ex;obtain rfl:u=Value.ref a:=rx;obtain⟨f,fd,cl,hm,b,F⟩:=D C hC;refine jw I1 ea cl hm l ?_;exact W.callWith_K0 I1.N0 hm.kp (sR (vs:=[.ref a]) F hr b .nil lP I1 (.cons rfl .nil) q)
end
theorem zt (hd:H d=some (.dK ķ))(e:f' (upd H d (.frz o (.dK ķ))) H'):f' H (upd H' d (.dK ķ)):=λb u hb=>by
 by_cases z:b=d
 ·subst z;rw[hd]at hb;cases hb;exact ag
 ·rw[ab z];exact e b u (by rw[ab z];exact hb)
structure JU (K:Ψ) (x ğ:Str) (st:Stmt) (f:Addr) (fd:È):Prop where
 ex:∃ (oc:Value)(od:ψ)(dV kV doc pm:Value)(an:ψ)(HU ct:Value)(Kv:ω),
  fd=W.fnOf x ğ (aT st) (aH st) (a8 st) dV kV doc pm an HU ct/\K.lookup f=some ⟨oc,od,.func fd,Kv⟩/\W.codeIn K HU ğ=true
 kp:W.keepIn K (.ref f)=true
noncomputable def Zt (K:Ψ)(a:Addr):It:=
 ⟨λi H=>∃ xs x,Il K H a xs/\xs[i]?=some x,λi H v H'=>∃ T,H T=none/\v=.ref T/\∃ x,(∀ xs,Il K H a xs->xs[i]?=some x)/\H'=upd H T (.tup [.int i,x]),λi H=>∃ xs,Il K H a xs/\xs.length<=i⟩
def a0Q (e it a:Addr)(i:Nat)(h:Heap):Prop:=(∃ old,IsEnum h e it i old)/\h.IsListIter it a i
theorem zf {P:É}{w:World}{K:Ψ}{elts:Ì}{x1:Nat}{Mo:Pos} (a e it:Addr) (ne:e≠it):wD P w K (.Tuple elts x1 Mo) (Zt K a) [e,it] e (a0Q e it a) where
 mem:=by simp
 obj:=λi h st c hc=>by
  obtain⟨⟨old,h1⟩,⟨o2,e2,c2,d2⟩⟩:=st;simp only[E3,EJ,Hg]at hc;rcases hc with rfl|rfl
  ·exact⟨_,h1,λv z=>by cases z⟩
  ·exact⟨_,e2,λv z=>by rw[d2]at z;cases z⟩
 keep:=λi h h' st k=>by obtain⟨⟨old,h1⟩,h2⟩:=st;exact⟨⟨old,k e (by simp) _ h1⟩,h2.at λo z=>k it (by simp) o z⟩
 item:=by
  intro X hP hw hK hc i ñ s σ H E I hf st hg;subst hP hw hK;obtain⟨xs,x,hx,ex⟩:=hg;obtain⟨⟨old,h1⟩,h2⟩:=st;obtain⟨its,rv,p,hz⟩:=I.list hx;obtain⟨w1,ew1,r1⟩:=rv.get ex;refine wpAny_pyNext_enum_item h1 h2 p.isList (by simpa using ew1) ne λh' a1 a2 a3 a4 a5=>?_;refine⟨_,rfl,wpAny_letOwnedTupleGo_enum a1 λUo b1 sb=>?_⟩;have hT:=I.Iq.fresh<|DV _;have WZ:∀ c∈[e,it],c≠s.heap.objs.size:=λc hc z=>by
   have:∃ o,s.heap.get? c=some o:=by
    simp only[E3,EJ,Hg]at hc;obtain⟨o2,e2,_⟩:=h2;rcases hc with rfl|rfl
    ·exact⟨_,h1⟩
    ·exact⟨_,e2⟩
   obtain⟨o,q⟩:=this;exact absurd (E8 q) (by rw[z];exact Fc _)
  have kk:∀ c o,c∉[e,it]->s.heap.get? c=some o->Uo.get? c=some o:=λc o hc z=>by simp only[E3,EJ,Hg,not_or]at hc;exact sb.extBut _ _ hc.1 (a5 c o hc.1 hc.2 z)
  have I1:Inv X _ σ H { s with heap:=Uo,toks:=s.toks+1 }:=I.Nz hf kk;have I2:Inv X ñ σ (upd H s.heap.objs.size<|.tup [.int i,x]) { s with heap:=Uo,toks:=s.toks+1 }:=by refine I1.Tx (I.OW (DV _) hT) I.sz ⟨by show 2<=sizeLine;decide,[.int i s.toks,w1],.cons ⟨_,rfl⟩<|.cons r1 .nil,?_⟩;exact⟨_,sb.extBut _ _ (Ne.symm<|WZ e (by simp)) a3,rfl,_,rfl⟩
  refine⟨.ref _,_,I2,rfl,⟨_,hT,rfl,x,λxs' QO=>by rw[I.MG QO hx];exact ex,rfl⟩,⟨⟨w1,?_⟩,?_⟩,λc hc=>?_⟩
  ·simpa using b1
  ·exact a2.extBut sb.extBut (Ne.symm ne)
  ·rw[ab<|WZ c hc];exact (hf c hc).1
 done:=by
  intro X hP hw hK hc i ñ s σ H E I hf st hg;subst hP hw hK;obtain⟨xs,hx,hl⟩:=hg;obtain⟨⟨old,h1⟩,h2⟩:=st;obtain⟨its,rv,p,hz⟩:=I.list hx;have l1:=rv.length;refine wpAny_pyNext_enum_end (I.ok.hd hc) h1 h2 p.isList (by simp;omega) λh' kk=>⟨rfl,I.Nz hf λc o hc z=>?_⟩
  simp only[E3,EJ,Hg,not_or]at hc;exact kk c o hc.2 z
 self:=λ_ _ _ _ _ st h=>wpAny_pyIter_enum st.1.choose_spec h
theorem pf:bootBuiltins "enumerate"=some (.type "enumerate"):=by decide +kernel
noncomputable def Y8 (K:Ψ)(ta:TA):TI:=λσ H R=>ta σ H λvs H1=>∃ a xs,vs=[.ref a]/\H1 a=some (.lst xs)/\R (Zt K a) H1
theorem t7 (K:Ψ)(hg:Gl X "enumerate")(hm:X.mg "enumerate"=none)(ha:PA X [e1] ta)(hK:autoParam (X.K=K) ŕ)(hs:autoParam (starEach [e1] X.env=[(false,eval e1 X.env)]) ŕ):PI X (.Tuple elts x1 Mo) (.Call (.Name "enumerate" p) [e1] [] pos) (Y8 K ta):=by
 subst hK;intro ñ s σ H R I h;refine Call_<|gx I hg hm pf (F7 (Iz (ha pos _ s σ H _ I h) λus s1 gR=>?_) hs rfl);obtain⟨vs,H1,I1,r1,q1⟩:=gR;obtain⟨a,xs,rfl,hx,q⟩:=q1;obtain⟨u,rfl,ru⟩:=gG r1
 cases ru;obtain⟨its,n,rv,ho,hz⟩:=I1.lst hx;refine call_enumerate_1 ho λh' a1 a2 a3 a4=>wpAny_pyIter_enum a1 ?_;have I2:Inv X _ σ H1 { s1 with heap:=h' }:=I1.kept a4;refine⟨_,[s1.heap.objs.size+1,s1.heap.objs.size],_,_,H1,rfl,I2,zf a _ _<|FQ (EX _),⟨⟨_,a1⟩,a2⟩,λc hc=>?_,q⟩;have le:@LE.le Nat _ s1.heap.objs.size c:=by
  simp only[E3,EJ,Hg]at hc;rcases hc with rfl|rfl
  ·exact Nat.le_succ _
  ·exact DV _
 exact I1.OW le (I1.Iq.fresh le)
theorem vV {K:Φ}{tb:TS}{D:d8}(Pv:Nat->Υ)(h0:Pv 0 σ H)(hl:∀ i σ H,i<=xs.length->Pv i σ H->Il K H a xs)(hs:∀ (i:Nat)(x:V)(T:Addr) σ H,xs[i]?=some x->Pv i σ H->H T=none->tb { D with nx:=Pv (i+1),ct:=Pv (i+1),bk:=D.nx } ((σ.set i1 (some (.int i))).set i2 (some x)) (upd H T (.tup [.int i,x])))(hd:∀ σ H,Pv xs.length σ H->D.nx σ H):
  ∃ W:Nat->Nat->Υ,(∃ m,W 0 m σ H)/\∀ i m σ H,W i m σ H->
   ((Zt K a).stop i H/\D.nx σ H)\/((Zt K a).go i H/\∃ N:Υ,(∀ σ' H',N σ' H'->∃ m',m'<m/\W (i+1) m' σ' H')/\∀ x H',(Zt K a).S9 i H x H'->Aa K 2 (yM (bU i1) (yM (bU i2) VY)) x σ H' λσ2 H2=>tb { D with nx:=N,ct:=N,bk:=D.nx } σ2 H2):=by
 refine⟨λi m σ H=>m=xs.length - i/\i<=xs.length/\Pv i σ H,⟨xs.length,by simp,EE _,h0⟩,?_⟩;rintro i m σ H ⟨rfl,hi,p⟩;have q:=hl i σ H hi p;by_cases Kb:i<xs.length
 ·refine .inr ⟨⟨xs,xs[i],q,by simp⟩,Pv _,λσ' H' p'=>⟨xs.length - _,by omega,rfl,Kb,p'⟩,λv H' y=>?_⟩;obtain⟨T,hT,rfl,x,ex,rfl⟩:=y;exact⟨T,[.int i,x],rfl,Kc.of ag,rfl,_,[x],rfl,_,[],rfl,rfl,hs i x T σ H (ex xs q) p hT⟩
 ·have e:i=xs.length:=by omega
  subst e;exact .inl ⟨⟨xs,q,DV _⟩,hd σ H p⟩
theorem CO {tb:TS}(hb:N6 X.QH body tb):PS X (.Try body (h₀::hs) [] [] pos) tb:=by
 intro ñ s σ H D I h;refine wpAny_Try_except ?_;refine FJ (hb _ s σ H D (I.NK _) h) (λf s1 q=>?_) λe s1 z=>False.elim z;have q:=q.KH
 cases f with
 | next=>obtain⟨σ',H',I',q⟩:=q;exact Hn ⟨σ',H',I',q⟩
 | brk=>obtain⟨σ',H',I',q⟩:=q;exact⟨σ',H',I',q⟩
 | cont=>obtain⟨σ',H',I',q⟩:=q;exact⟨σ',H',I',q⟩
 | ret u=>obtain⟨v,σ',H',I',r,q⟩:=q;exact⟨v,σ',H',I',r,q⟩
def Dmd (P:É)(w:World)(K:Ψ)(mg:Ω)(base:Heap)(k:Nat)(C:Addr)(m:Str)(ps:η)(dvs:π)(sp:Sp):Prop:=
 ∃ f fd ds,LF K C/\yb K C m f/\Binds K fd ps ds/\Vals dvs ds/\HP P w K mg base Ik k f fd ps sp
def Sz (P:É)(w:World)(K:Ψ)(mg:Ω)(base:Heap)(k:Nat)(x:Str)(ps:η)(dvs:π)(sp:Sp):Prop:=
 ∃ f fd ds,mg x=some (.ref f)/\W.keepIn K (.ref f)=true/\Binds K fd ps ds/\Vals dvs ds/\HP P w K mg base Ik k f fd ps sp
theorem JU.ok {K:Ψ}{st:Stmt}{k:Nat}(F:JU K x ğ st f fd)(S:ae N ps (a8 st))(len:∀ vs H Q E,sp vs H Q E->vs.length=ps.length)(MK:∀ (HU:Value)(A:Ë)(outer:List Env)(s:Ê)(H:Hp)(vs:π)(Q:VK)(E:XK),IA k (A.deeper (envOfC ğ (a8 st) s.heap.objs.size f HU))->sp vs H Q E->
   ∃ t,N6 (mN Ik P w K mg base N ğ (a8 st) f HU A outer s H E).QH (aH st) t/\t { nx:=λ_ H'=>Q .non H',rt:=Q } (start N vs) H):HP P w K mg base Ik (k+1) f fd ps sp:=by
 obtain⟨oc,od,dV,kV,doc,pm,an,HU,ct,Kv,rfl,lk,Qv⟩:=F.ex;refine Uq lk Qv S len λA outer s H vs Q E hr Se=>?_;obtain⟨t,h,q⟩:=MK HU A _ s H vs Q E hr Se;exact⟨t,h.QH,q⟩
theorem Bc (D:Sz X.prog X.w X.K X.mg X.base k x ps dvs sp)(hr:IA k X.A)(hg:Gl X x)(ha:PA X (e::es) t)(Mb:autoParam (Ė x) ĩ)(he:autoParam (Ĕ X e es) ŕ)(L':autoParam (Ē X pos es) ŕ):
  PE X (.Call (.Name x p) (e::es) [] pos) (yj sp dvs E0 t):=by
 obtain⟨f,fd,ds,hm,kp,b,hd,F⟩:=D;exact yz F hr hg hm kp b hd lP ha Mb he L'
theorem B5 (he:PE X o ta)(D:Dmd X.prog X.w X.K X.mg X.base k C m ps dvs sp)(hr:IA k X.A)(ha:PA X (e::es) t)(QQ:autoParam (Ĕ X e es) ŕ)(L':autoParam (Ē X pos es) ŕ)(ht:autoParam (eval (.Call (.Attribute o m apos) (e::es) [] pos) X.env=(do
   let ov <- eval o X.env
   standAt apos.atName
   let (f,first) <- holding [ov] (getMethod ov m pl)
   callWith pos f first (backTo pos (starEach (e::es) X.env)) (backToKw pos (keywordEach [] X.env)))) ŕ):
  PE X (.Call (.Attribute o m apos) (e::es) [] pos) (qm C m sp dvs E0 ta t):=by
 obtain⟨f,fd,ds,cl,hm,b,hd,F⟩:=D;exact yw he cl hm F hr b hd lP ha QQ L' ht
theorem IM (a:autoParam (sc.kind=.function) ŕ)(b:autoParam (sc.isCoroutine=false) ŕ)(c:autoParam (sc.isGenerator=false) ŕ)(d:N.Nodup:=by decide +kernel)(e:autoParam (N.take P.length=P) ŕ)(f:∀ x∈P,sc.names.lookup x=some .local\/sc.names.lookup x=some .cell:=by decide +kernel)(g:∀ y∈sc.names,y.2≠.free:=by decide +kernel):ae N P sc:=⟨a,b,c,d,e,f,g⟩
theorem IA.m (r:IA k A)(h:autoParam (j<=k) ĩ):IA j A:=r.mono h
section
theorem pS (i:Nat)(hN:X.N.Nodup)(he:PE X e te)(hi:autoParam (X.N[i]?=some x) ŕ)(hx:Loc X.env.scope x:=by first|exact Or.inl rfl|exact Or.inr rfl)(hs:autoParam (swapsWith e (some (.Name x pos')) pos.line X.env=pure false) ŕ)(hf:autoParam (X.fn x=true\/X.env.scope.names.lookup x=some .local) ś):
  PS X (.Assign [.Name x pos'] e pos) (lY te (bU i)):=UY hN hi hx he hs hf
theorem pN (i:Nat)(hN:X.N.Nodup)(hi:autoParam (X.N[i]?=some x) ŕ)(hx:Loc X.env.scope x:=by first|exact Or.inl rfl|exact Or.inr rfl)(hf:autoParam (X.fn x=true\/X.env.scope.names.lookup x=some .local) ś):PG X (.Name x pos) (bU i):=yv hN hi hx hf
theorem pC (i:Nat)(hN:N'.Nodup:=by decide +kernel)(hi:autoParam (N'[i]?=some x) ŕ)(hx:Loc (aB X scope N' cells C s H fp).env.scope x:=by first|exact Or.inl rfl|exact Or.inr rfl)(hf:autoParam ((aB X scope N' cells C s H fp).fn x=true\/(aB X scope N' cells C s H fp).env.scope.names.lookup x=some .local) ś):PG (aB X scope N' cells C s H fp) (.Name x pos) (bU i):=yv hN hi hx hf
theorem cS (nT:Nat)(js:À)(N':η)(h:lD X.env.scope X.N scope nT js N'=true:=by kernel_rfl):bv X scope nT js N':=u9 rfl rfl h
variable {tb:TE}
theorem pI (hr:Qy X r)(ha:PE X a ta)(hb:PE X b tb)(hs:n8 b:=by exact λ_ _=>rfl):PE X (.Subscript a b pos) (TB r ta tb):=U6 hr ha hb hs
theorem pD (hu:X.A.units+1<cLine)(ho:PE X o td)(hi:PE X i ty)(hs:Wq i:=by exact λ_ _=>rfl):PE X (.Subscript o i pos) (TF td ty):=CW hu ho hi hs
theorem pM (ho:JT X (compareOp op) r)(ha:PE X a ta)(hb:PE X b tb)(hm:behindInMarks op b=false:=by exact tU _):PE X (.Compare a [op] [b] pos) (TB r ta tb):=yx ho ha hb hm
theorem pT (ho:JT X (compareOp op) r)(ha:PE X a ta)(hb:PE X b tb)(hm:behindInMarks op b=false:=by exact tU _):PT X (.Compare a [op] [b] pos) (AB (TB r ta tb)):=yu ho ha hb hm
end
section
variable {K:Ψ}
theorem Iy.k {st:Stmt}{k:Nat}(F:Iy K x ğ st f fd)(S:ae N ps (a8 st))(MK:∀ (HU:Value)(A:Ë)(outer:List Env)(s:Ê)(H:Hp)(vs:π)(Q:VK)(E:XK),IA k (A.deeper (envOfC ğ (a8 st) s.heap.objs.size f HU))->sp vs H Q E->
   ∃ t,N6 (mN Ik P w K mg base N ğ (a8 st) f HU A outer s H E).QH (aH st) t/\t { nx:=λ_ H'=>Q .non H',rt:=Q } (start N vs) H)(len:∀ vs H Q E,sp vs H Q E->vs.length=ps.length:=by intro _ _ _ _ h;first|(cases h;subst_vars;rfl;done)|repeat first|(obtain⟨rfl,_⟩:=h;rfl;done)|obtain⟨_,h⟩:=h):HP P w K mg base Ik (k+1) f fd ps sp:=F.ok S len MK
theorem JU.k {st:Stmt}{k:Nat}(F:JU K x ğ st f fd)(S:ae N ps (a8 st))(MK:∀ (HU:Value)(A:Ë)(outer:List Env)(s:Ê)(H:Hp)(vs:π)(Q:VK)(E:XK),IA k (A.deeper (envOfC ğ (a8 st) s.heap.objs.size f HU))->sp vs H Q E->
   ∃ t,N6 (mN Ik P w K mg base N ğ (a8 st) f HU A outer s H E).QH (aH st) t/\t { nx:=λ_ H'=>Q .non H',rt:=Q } (start N vs) H)(len:∀ vs H Q E,sp vs H Q E->vs.length=ps.length:=by intro _ _ _ _ h;first|(cases h;subst_vars;rfl;done)|repeat first|(obtain⟨rfl,_⟩:=h;rfl;done)|obtain⟨_,h⟩:=h):HP P w K mg base Ik (k+1) f fd ps sp:=JU.ok F S len MK
end
end L2
namespace K92
open PySem L2
open PyProof.Rows (boot_all boot_bool boot_dict boot_int boot_list boot_str boot_tuple)
abbrev _root_.Ü:List Str:=["self","name"]
abbrev _root_.Ý:List Str:=["net","plan","many","prime","fallen"]
abbrev _root_.Þ:List Str:=["self"]
abbrev _root_.à:List Str:=["self","one","other"]
abbrev _root_.á:List Str:=["field","table","many"]
abbrev _root_.â:List Str:=["_law_net_here","_law_plan_here","_law_many","_law_prime","_law_fallen","_law_told"]
abbrev _root_.ã:List Str:=["self","field","way","number"]
abbrev _root_.ä:List Str:=["net","listener","many","fallen"]
abbrev _root_.å:List Str:=["self","number"]
abbrev _root_.æ:List Str:=["net","plan","message","prime","fallen"]
abbrev _root_.è:List Str:=["field","mixing","plan","message","fallen"]
abbrev _root_.é:List Str:=["_law_one","_law_other","_law_numbers"]
abbrev _root_.ë:List Str:=["_law_ties","_law_many","_law_prime","_law_second"]
abbrev _root_.ì:List Str:=["field","one","other"]
abbrev _root_.í:List Str:=["_law_net_here","_law_many","_law_prime"]
abbrev _root_.î:List Str:=["_law_cell","_law_k"]
abbrev _root_.ï:List Str:=["net","many","prime","falls"]
abbrev _root_.ò:List Str:=["net","many","field","chosen","found"]
abbrev _root_.ó:List Str:=["self","one","other","delay"]
abbrev _root_.ô:List Str:=["net","many","found","rows_by_choice"]
abbrev _root_.õ:List Str:=["field","mixed","told","rows","many"]
abbrev _root_.ø:List Str:=["message","mixed","carries"]
abbrev _root_.ù:List Str:=["self","prime"]
abbrev _root_.ú:List Str:=["field","rows","start","at","place"]
abbrev _root_.û:List Str:=["number"]
abbrev _root_.ü:List Str:=["ties","home","listener","many"]
abbrev _root_.ý:List Str:=["field","row","number"]
abbrev _root_.þ:List Str:=["self","post"]
abbrev _root_.ÿ:List Str:=["field","row","length"]
abbrev _root_.Ā:List Str:=["_law_script","_law_k"]
abbrev _root_.ā:List Str:=["field","row","lead","place"]
abbrev _root_.Ă:List Str:=["field","table","row"]
abbrev _root_.ă:List Str:=["net","plan","many","prime"]
abbrev _root_.Ą:List Str:=["self","rows","many"]
abbrev _root_.ą:List Str:=["tie","name","used"]
abbrev _root_.Ć:List Str:=["_law_first","_law_cells"]
abbrev _root_.ć:List Str:=["table","place"]
abbrev _root_.Ĉ:List Str:=["ties","home","listener"]
abbrev _root_.ĉ:List Str:=["used","came","listener"]
abbrev _root_.Ċ:List Str:=["home","touching","used"]
abbrev _root_.ċ:List Str:=["field","values","steps"]
abbrev _root_.Č:List Str:=["_law_many","_law_prime"]
abbrev _root_.č:List Str:=["many"]
abbrev _root_.Ď:List Str:=["field","number"]
abbrev _root_.ď:List Str:=["many","own"]
abbrev _root_.ē:List Str:=["row","many"]
noncomputable def top (i:Nat):Stmt:=PySem.Challenge.pw_mixposts_k92_whole_a_cut_is_too_narrow.main.body.getD i (.Pass ⟨0,0,0,0⟩)
inductive Kd where
 |house|listener|post
deriving DecidableEq
structure Cl where
 IU:Addr
 post:Addr
 house:Addr
 LS:Addr
noncomputable def Cl.of (c:Cl):Kd->Addr
 | .house=>c.house
 | .listener=>c.LS
 | .post=>c.post
structure Cl.Ok (K:Ψ) (c:Cl):Prop where
 cn:LF K c.IU
 cp:LF K c.post
 ch:LF K c.house
 cl:LF K c.LS
 fp:IE K c.IU "kept_posts"
 ft:IE K c.IU "kept_ties"
 fn:IE K c.IU "next_number"
 np:IE K c.post "name"
 nh:IE K c.house "name"
 nl:IE K c.LS "name"
 ph:c.post≠c.house
 pl:c.post≠c.LS
 hl:c.house≠c.LS
def jH (c:Cl)(C:Addr):Prop:=∃ k,C=c.of k
theorem Cl.Ok.cls (o:Cl.Ok K c):∀ k,LF K (c.of k)
 | .house=>o.ch
 | .listener=>o.cl
 | .post=>o.cp
theorem Cl.Ok.SS (o:Cl.Ok K c):∀ k,IE K (c.of k) "name"
 | .house=>o.nh
 | .listener=>o.nl
 | .post=>o.np
abbrev IJ:=Int×Str×Str×Int
structure NS where
 Ia:List (Str×Kd)
 HM:List IJ
 next:Int
def Jr (c:Cl)(H:Hp)(v:V)(p:Str×Kd):Prop:=∃ a dx,v=.ref a/\H a=some (.ins (c.of p.2) dx [("name",.str p.1)])
def KA (H:Hp)(v:V)(t:IJ):Prop:=∃ a,v=.ref a/\H a=some (.tup [.int t.1,.str t.2.1,.str t.2.2.1,.int t.2.2.2])
structure IZ (c:Cl) (H:Hp) (n dp dt:Addr) (S:NS):Prop where
 ins:∃ dx,H n=some (.ins c.IU dx [("kept_posts",.ref dp),("kept_ties",.ref dt),("next_number",.int S.next)])
 Ia:∃ ķ,H dp=some (.dK ķ)/\Paired (λ(kv:Key×V) p=>kv.1=Sum.inr p.1/\Jr c H kv.2 p) ķ S.Ia
 HM:∃ ķ,H dt=some (.dK ķ)/\Paired (λ(kv:Key×V) (t:IJ)=>kv.1=Sum.inl t.1/\KA H kv.2 t) ķ S.HM
 ne:dp≠dt
theorem Jr.mono (e:f' H H')(h:Jr c H v p):Jr c H' v p:=let ⟨a,dx,q1,q2⟩:=h;⟨a,dx,q1,e _ _ q2⟩
theorem KA.mono (e:f' H H')(h:KA H v t):KA H' v t:=let ⟨a,q1,q2⟩:=h;⟨a,q1,e _ _ q2⟩
theorem IZ.mono (e:f' H H')(h:IZ c H n dp dt S):IZ c H' n dp dt S:=by obtain⟨⟨dx,h1⟩,⟨kp,h2,p2⟩,⟨kt,h3,p3⟩,h4⟩:=h;exact⟨⟨dx,e _ _ h1⟩,⟨kp,e _ _ h2,Paired.JD p2 λ_ _ gR=>(by obtain⟨a,b⟩:=gR;exact⟨a,b.mono e⟩)⟩,⟨kt,e _ _ h3,Paired.JD p3 λ_ _ gR=>(by obtain⟨a,b⟩:=gR;exact⟨a,b.mono e⟩)⟩,h4⟩
noncomputable def Zq:Str:="abcdefghijklmnopqrstuvwxyz"
noncomputable def yF (x:Str):Bool:=!(Builtin.Str.occurrences Zq x 0 Zq.length 1).isEmpty
noncomputable def jr (x:Str):Bool:=decide (1<=x.length)&&decide (x.length<=8)&&(List.range x.cps.size).all λi=>yF (sgn x i)
structure jB (mg:Ω):Prop where
 IH:mg "len"=none
 Jj:mg "isinstance"=none
 XU:mg "str"=none
 Oz:mg "all"=none
 Ll:mg "list"=none
structure DA (mg:Ω):Prop where
 let_:∃ t,mg "LETTERS"=some (.str Zq t)
 lon:∃ t,mg "LONGEST_NAME"=some (.int 8 t)
 mop:∃ t,mg "MOST_POSTS"=some (.int 20 t)
 mol:∃ t,mg "MOST_LISTENERS"=some (.int 8 t)
structure Wi (K:Ψ):Prop where
 ss:W.kitOne K (.type "str") (.type "str")=some true
theorem Aj (g:Nat->V)(hz:x.cps.size<=1000)(hs:∀ i H2,i<x.cps.size->f' H H2->te (some (.str (sgn x i))::Za σ js) H2 λv H5=>v=g i/\f' H2 H5)(hd:∀ l H',H l=none->f' H H'->H' l=some (.lst ((List.range x.cps.size).map g))->F l H'):gC 1 js (bU 0) wP te σ F (Its x) H:=by
 intro l WG;refine⟨λi m σ' H2=>m=x.cps.size - i/\i<=x.cps.size/\(∃ o,σ'=o::Za σ js)/\f' H H2/\H2 l=some (.lst<|(List.range i).map g),⟨x.cps.size,by simp,EE _,⟨none,rfl⟩,aV (f'.refl _) WG,ag⟩,?_⟩;rintro i m σ' H2 ⟨rfl,hi,⟨o,rfl⟩,e,hl⟩;by_cases Kb:i<x.cps.size
 ·refine .inr ⟨Kb,λv H3 y=>?_⟩;obtain⟨rfl,rfl⟩:=y;refine⟨λ_=>False,λv H5=>v=g i/\f' H3 H5,λH4 p4=>p4.elim,λv H5 gR=>?_,hs i H3 Kb e⟩;obtain⟨ev,e5⟩:=gR;subst ev;refine⟨_,e5 _ _ hl,by simp only[DH,Er];exact Ey Kb<|Ei hz (by decide),_,?_,rfl,Kb,⟨_,rfl⟩,aW (e.trans e5) WG,?_⟩
  ·omega
  ·rw[ag,Hq,DP];rfl
 ·have ei:i=x.cps.size:=by omega
  subst ei;exact .inl ⟨rfl,hd l H2 WG e hl⟩
inductive nC (vs:π) (H:Hp) (Q:VK) (E:XK):Prop
 |mk (x:Str):vs=[.str x]->x.length<=1000->(∀ H',f' H H'->Q (.bl (jr x)) H')->nC vs H Q E
noncomputable abbrev iI:Stmt:=top 24
theorem NQ:ae ["name"] ["name"] (a8 iI):=IM
theorem xj (F:Iy K "is_name" "is_name" iI f fd)(T:jB mg)(TG:DA mg)(TK:Wi K):HP P w K mg base Ik 1 f fd ["name"] nC:=by
 obtain⟨tl,Q2⟩:=TG.let_;obtain⟨tn,Nu⟩:=TG.lon;refine F.k NQ λHU A outer s H vs Q E hr h=>?_
 ·obtain⟨x,rfl,hx,q⟩:=h;refine⟨_,(aj (io (sX<|cf (bQ (VB K) rfl T.Jj de<|a9 (pv 0) (a9 (t8 (v:=.ty "str") rfl T.XU boot_str rfl) D')))
  (ar<|bJ cG)
  Jb)
 (ar (bJ (xc (nY qB qB aa (bQ uf rfl T.IH boot_len<|a9 (pv 0) D')<|gk (v:=.int 8) rfl Nu ⟨_,rfl⟩) (jk (bQ (fX K rfl) rfl T.Oz boot_all (a9 (eO rfl (cS 1 [] ["sign"]) (V2<|pv 0)
  (λ_ _ _ _ _=>pC 0)
  (λ_ _ _ _ _=>LG)
  (λ_ _ _ _ _=>pM zB (pv 0) (gk (v:=.str Zq) rfl Q2 ⟨_,rfl⟩)<|by with_unfolding_all rfl)) D'))))))),?_⟩
  have hxs:x.cps.size=x.length:=rfl;refine⟨_,rfl,.str x,_,_,_,rfl,.str x,TK.ss,_,rfl,vM ?_⟩;have qb:jr x=(decide (1<=x.length)&&decide (x.length<=8)&&((List.range x.cps.size).map λi=>yF<|sgn x i).all id):=by rw[Hw];rfl
  refine⟨_,rfl,x,rfl,Ei hx<|by decide,?_⟩;refine⟨_,_,rfl,rfl,_,rfl,mH (λh1=>?_) (λh1=>?_)⟩
  ·have h1:1<=x.length:=by have:=DZ h1;omega
   refine⟨_,_,rfl,rfl,_,rfl,mH (λh2=>?_) (λh2=>?_)⟩
   ·have h2:x.length<=8:=by have:=DZ h2;omega
    refine⟨_,rfl,x,rfl,Aj (λi=>.bl<|yF (sgn x i)) (by omega) (λi H2 hi e=>⟨_,rfl,_,Zq,rfl,rfl,rfl,f'.refl _⟩) (λl H' WG e hl=>?_)⟩;refine⟨l,(List.range x.cps.size).map λi=>yF<|sgn x i,rfl,Il.of (by rw[DL];exact hl),?_⟩;have:=q H' e;rw[qb,DM h1,DM h2]at this;exact this
   ·have h2:¬ x.length<=8:=λz=>h2<|DM (by omega);have:=q H<|f'.refl _;rw[qb,DQ h2,Bool.and_false,Bool.false_and]at this;exact this
  ·have h1:¬ 1<=x.length:=λz=>h1<|DM (by omega);have:=q H<|f'.refl _;rw[qb,DQ h1,Bool.false_and,Bool.false_and]at this;exact⟨_,rfl,vM this⟩
noncomputable def gY (b:V):Sp:=λvs H Q _=>∃ v,vs=[v]/\Q b H
noncomputable abbrev dh:Stmt:=aF (top 29) 3
theorem pQ:ae Þ Þ (a8 dh):=IM
theorem iV (F:Iy K "reads" "Post.reads" dh f fd):HP P w K mg base Ik 1 f fd Þ (gY (.bl false)):=by
 refine F.k pQ λHU A _ s H vs Q E hr h=>?_
 ·obtain⟨v,rfl,q⟩:=h;exact⟨_,ar<|bJ cG,q⟩
noncomputable abbrev cM:Stmt:=aF (top 31) 1
theorem jQ:ae Þ Þ (a8 cM):=IM
theorem jZ (F:Iy K "reads" "Listener.reads" cM f fd):HP P w K mg base Ik 1 f fd Þ (gY (.bl true)):=by
 refine F.k jQ λHU A _ s H vs Q E hr h=>?_
 ·obtain⟨v,rfl,q⟩:=h;exact⟨_,ar<|bJ cG,q⟩
noncomputable abbrev di:Stmt:=aF (top 29) 4
theorem pR:ae Þ Þ (a8 di):=IM
theorem iW (F:Iy K "hears" "Post.hears" di f fd):HP P w K mg base Ik 1 f fd Þ (gY (.bl true)):=by
 refine F.k pR λHU A _ s H vs Q E hr h=>?_
 ·obtain⟨v,rfl,q⟩:=h;exact⟨_,ar<|bJ cG,q⟩
noncomputable abbrev fA:Stmt:=aF (top 30) 1
theorem nF:ae Þ Þ (a8 fA):=IM
theorem oB (F:Iy K "hears" "House.hears" fA f fd):HP P w K mg base Ik 1 f fd Þ (gY (.bl false)):=by
 refine F.k nF λHU A _ s H vs Q E hr h=>?_
 ·obtain⟨v,rfl,q⟩:=h;exact⟨_,ar<|bJ cG,q⟩
noncomputable def Xn:Kd->Bool
 | .listener=>true
 | _=>false
noncomputable def Sf:Kd->Bool
 | .house=>false
 | _=>true
theorem ik (O:Cl.Ok K c):∀ k,decide (c.of k=c.LS)=Xn k
 | .listener=>DM rfl
 | .house=>DQ O.hl
 | .post=>DQ O.pl
theorem iA (O:Cl.Ok K c):∀ k,(!decide (c.of k=c.house))=Sf k
 | .house=>by rw[show decide (c.of .house=c.house)=true from DM rfl];rfl
 | .listener=>by rw[show decide (c.of .listener=c.house)=false from DQ O.hl.symm];rfl
 | .post=>by rw[show decide (c.of .post=c.house)=false from DQ O.ph];rfl
inductive gW (c:Cl)  (vs:π) (H:Hp) (Q:VK) (E:XK):Prop
 |mk (x:Addr) (k:Kd) (dx:Addr) (n:Str):vs=[.ref x,.str n]->H x=some (.ins (c.of k) dx [])->Q .non (upd H x (.ins (c.of k) dx [("name",.str n)]))->gW c vs H Q E
noncomputable abbrev bC:Stmt:=aF (top 29) 0
theorem kO:ae Ü Ü (a8 bC):=IM
theorem gq (F:Iy K "__init__" "Post.__init__" bC f fd)(O:Cl.Ok K c):HP P w K mg base Ik 1 f fd Ü (gW c):=by
 refine F.k kO λHU A _ s H vs Q E hr h=>?_
 ·obtain⟨x,k,dx,n,rfl,hx,q⟩:=h;refine⟨_,ar<|gh (pv 0) (pv 1) rfl,?_⟩;exact⟨_,rfl,_,rfl,x,c.of k,dx,_,rfl,hx,O.cls k,O.SS k,by decide,q⟩
inductive nv (c:Cl)  (vs:π) (H:Hp) (Q:VK) (E:XK):Prop
 |mk (x dx:Addr):vs=[.ref x]->H x=some (.ins c.IU dx [])->(∀ d1 d2 H',H d1=none->H d2=none->d1≠d2->(∀ a o,a≠x->H a=some o->H' a=some o) ->
 H' x=some (.ins c.IU dx [("kept_posts",.ref d1),("kept_ties",.ref d2),("next_number",.int 0)])->H' d1=some (.dK [])->H' d2=some (.dK [])->Q .non H')->nv c vs H Q E
noncomputable abbrev dU:Stmt:=aF (top 32) 0
theorem m8:ae Þ Þ (a8 dU):=IM
theorem vh (F:Iy K "__init__" "Net.__init__" dU f fd)(O:Cl.Ok K c):HP P w K mg base Ik 1 f fd Þ (nv c):=by
 refine F.k m8 λHU A _ s H vs Q E hr h=>?_
 ·obtain⟨x,dx,rfl,hx,q⟩:=h;refine⟨_,(aj (gh (pv 0) MB rfl)
 (aj (gh (pv 0) MB rfl)
 (ar<|gh (pv 0) aa rfl))),?_⟩
  intro d1 h1;have n1:=aq hx h1;refine⟨_,rfl,x,c.IU,dx,_,rfl,by rw[ab n1];exact hx,O.cn,O.fp,by decide,?_⟩;intro d2 h2;have n2:=aq ag h2;have n3:=aq (by rw[ab n1.symm];exact ag) h2;refine⟨_,rfl,x,c.IU,dx,_,rfl,by rw[ab n2];exact ag,O.cn,O.ft,(by show 1<1000;decide),?_⟩;refine⟨_,rfl,x,c.IU,dx,_,rfl,ag,O.cn,O.fn,(by show 2<1000;decide),?_⟩;have VX:H d2=none:=by rw[ab n2.symm,ab n3.symm]at h2;exact h2
  refine q d1 d2 _ h1 VX n3 (λa o na ha=>?_) ag ?_ ?_
  ·rw[ab na,ab na,ab<|aq ha VX,ab na,ab<|aq ha h1];exact ha
  ·rw[ab n1.symm,ab n1.symm,ab n3,ab n1.symm];exact ag
  ·rw[ab n2.symm,ab n2.symm];exact ag
end K92
namespace Mx
noncomputable def dot:List Int->List Int->Int
 | a::x,b::y=>a * b+dot x y
 | _,_=>0
noncomputable def fR (p:Int):Int->List (Int×Int)->Int
 | t,[]=>t
 | t,(a,b)::r=>fR p ((t+a * b % p) % p) r
noncomputable def Ig (p:Int)(x y:Ξ):Int:=fR p 0 (x.zip y)
theorem lM (p:Int):∀ (x y:Ξ)(t:Int),t % p=t->fR p t (x.zip y)=(t+dot x y) % p
 | [],_,t,h=>by simp[fR,dot,h]
 | _::_,[],t,h=>by simp[fR,dot,h]
 | a::x,b::y,t,_=>by show fR p ((t+a * b % p) % p) (x.zip y)=_;rw[lM p x y _<|Int.emod_emod_of_dvd _ (Int.dvd_refl _)];show ((t+a * b % p) % p+dot x y) % p=(t+(a * b+dot x y)) % p;rw[Int.emod_add_emod,Int.add_assoc,Int.add_comm t,Int.add_assoc,Int.emod_add_emod];congr 1;omega
theorem Iv (p:Int)(x y:Ξ):Ig p x y=dot x y % p:=by unfold Ig;rw[lM p x y 0<|by simp,Int.zero_add]
theorem IP:∀ (x y:Ξ),dot x y=dot y x
 | [],[]=>rfl
 | [],_::_=>rfl
 | _::_,[]=>rfl
 | a::x,b::y=>by show a * b+dot x y=b * a+dot y x;rw[Fv,IP x y]
theorem JA (p:Int):∀ (x y:Ξ),dot (x.map (· % p)) y % p=dot x y % p
 | [],_=>by simp[dot]
 | _::_,[]=>by simp[dot]
 | a::x,b::y=>by show (a % p * b+dot (x.map (· % p)) y) % p=(a * b+dot x y) % p;rw[Int.add_emod,JA p x y,Int.mul_emod,Int.emod_emod_of_dvd _<|Int.dvd_refl _,<- Int.mul_emod,<- Int.add_emod]
theorem Jx (p:Int)(x y:Ξ):dot x (y.map (· % p)) % p=dot x y % p:=by rw[IP,JA,IP]
noncomputable def Aq (x y:Ξ):Ξ:=List.zipWith (·+·) x y
theorem we:∀ (x y v:Ξ),x.length=y.length->dot (Aq x y) v=dot x v+dot y v
 | [],[],v,_=>by simp[Aq,dot]
 | a::x,b::y,[],_=>by simp[Aq,dot]
 | a::x,b::y,c::v,h=>by
  have:=we x y v (by simpa using h);show (a+b) * c+dot (Aq x y) v=(a * c+dot x v)+(b * c+dot y v)
  rw[this,Int.add_mul];omega
theorem wc (k:Int):∀ (x v:Ξ),dot (x.map (· * k)) v=k * dot x v
 | [],v=>by simp[dot]
 | a::x,[]=>by simp[dot]
 | a::x,c::v=>by
  show a * k * c+dot (x.map (· * k)) v=k * (a * c+dot x v)
  rw[wc k x v,HK,Fv a k,EY]
abbrev _root_.Θ:=List Ξ
noncomputable def col (t:Θ)(j:Nat):Ξ:=t.map λr=>r.getD j 0
noncomputable def cols (t:Θ)(w:Nat):Θ:=(List.range w).map (col t)
noncomputable def M' (t:Θ)(w:Nat)(r:Ξ):Ξ:=(cols t w).map λc=>dot c r
noncomputable def Pe (t:Θ)(v:Ξ):Ξ:=t.map λr=>dot r v
theorem uT (t:Θ)(w:Nat)(r:Ξ):(M' t w r).length=w:=by simp[M',cols]
theorem JP:∀ (b:Ξ)(w:Nat),b.length=w->(List.range w).map (λj=>b.getD j 0)=b:=by
 intro b w h;subst h;apply List.ext_getElem
 ·simp
 ·intro i h1 h2;simp at h1;simp[h1]
theorem MN:∀ (t:Θ)(w:Nat)(r v:Ξ),(∀ b∈t,b.length=w)->v.length=w->r.length=t.length->dot (M' t w r) v=dot r (Pe t v)
 | [],w,r,v,_,_,hr=>by
  have:r=[]:=Gm.mp (by simpa using hr);subst this;have e:M' [] w []=(List.range w).map λ_=>0:=by simp[M',cols,col,dot]
  rw[e];have z:∀ (n:À)(v:Ξ),dot (n.map λ_=>(0:Int)) v=0:=by
   intro n
   induction n with
   | nil=>intro v;simp[dot]
   | cons a n ih=>
    intro v
    cases v with
    | nil=>simp[dot]
    | cons c v=>show 0 * c+dot _ v=0;rw[ih v];omega
  rw[z];simp[dot]
 | b::t,w,[],v,_,_,hr=>by simp at hr
 | b::t,w,a::r,v,hb,hv,hr=>by
  have ih:=MN t w r v (λc hc=>hb c<|E6 _ hc) hv (by simpa using hr);have e:M' (b::t) w (a::r)=Aq (b.map (· * a)) (M' t w r):=by unfold M' cols col Aq;rw[DL,DL];have Oc:b=(List.range w).map (λj=>b.getD j 0):=(JP b w<|hb b E7).symm;rw[show b.map (· * a)=((List.range w).map λj=>b.getD j 0).map (· * a) by rw[<- Oc]];rw[DL,List.zipWith_map];rw[List.zipWith_self];apply E9;intro j _;simp[dot]
  rw[e,we _ _ _ (by rw[DH,uT];exact hb b E7),wc,ih];show a * dot b v+dot r (Pe t v)=a * dot b v+dot r (Pe t v);rfl
noncomputable def J7 (p:Int)(t:Θ)(v:Ξ):Ξ:=t.map λr=>Ig p r v
theorem x9 (p:Int)(b:Θ)(w:Nat)(r:Ξ):J7 p (cols b w) r=(M' b w r).map (· % p):=by unfold J7 M';rw[DL];apply E9;intro c _;simp[Iv]
noncomputable def HL (n i:Nat):Ξ:=(List.range n).map λj=>if j=i then 1 else 0
noncomputable def ones (n:Nat):Θ:=(List.range n).map (HL n)
theorem w6:∀ (n i s:Nat)(r:Ξ),r.length=n->dot ((List.range' s n).map λj=>if j=s+i then (1:Int) else 0) r=r.getD i 0
 | 0,i,s,r,h=>by have:r=[]:=Gm.mp h;subst this;simp[dot]
 | n+1,i,s,[],h=>by simp at h
 | n+1,0,s,a::r,h=>by
  rw[List.range'_succ];show (if s=s+0 then (1:Int) else 0) * a+dot _ r=a;rw[if_pos<|by omega];have z:∀ (m t:Nat)(v:Ξ),s<t->dot ((List.range' t m).map λj=>if j=s+0 then (1:Int) else 0) v=0:=by
   intro m
   induction m with
   | zero=>intro t v _;simp[dot]
   | succ m ih=>
    intro t v ht;rw[List.range'_succ]
    cases v with
    | nil=>simp[dot]
    | cons c v=>
     show (if t=s+0 then (1:Int) else 0) * c+dot _ v=0;rw[if_neg<|by omega,ih (t+1) v<|by omega];omega
  rw[z n (s+1) r<|by omega];omega
 | n+1,i+1,s,a::r,h=>by rw[List.range'_succ];show (if s=s+(i+1) then (1:Int) else 0) * a+dot _ r=_;rw[if_neg<|by omega];have:=w6 n i (s+1) r (by simpa using h);rw[show (λj=>if j=s+(i+1) then (1:Int) else 0)=λj=>if j=s+1+i then (1:Int) else 0 by funext j;rw[show s+(i+1)=s+1+i by omega]];rw[this];simp
theorem IY (n i:Nat)(r:Ξ)(h:r.length=n):dot (HL n i) r=r.getD i 0:=by have:=w6 n i 0 r h;unfold HL;rw[List.range_eq_range'];simpa using this
theorem RS (n j:Nat)(hj:j<n):col (ones n) j=HL n j:=by
 unfold col ones HL;rw[DL];apply E9;intro i hi;simp[hj];by_cases h:j=i
 ·subst h;simp
 ·simp[h,Ne.symm h]
theorem Po {r:Ξ}(h:∀ x∈r,0<=x/\x<p):r.map (· % p)=r:=by have:r.map (· % p)=r.map id:=E9 λx hx=>F9 (h x hx).1 (h x hx).2;rw[this,List.map_id]
noncomputable abbrev e (r:Ξ)(j:Nat):Int:=r.getD j 0
def JB (p:Int)(r:Ξ):Prop:=∀ x∈r,0<=x/\x<p
theorem JB.at (hp:0<p)(h:JB p r)(j:Nat):0<=e r j/\e r j<p:=by
 unfold e;rw[DG]
 cases hj:r[j]? with
 | none=>exact⟨Int.le_refl _,hp⟩
 | some x=>exact h x (DO hj)
noncomputable def scaled (p:Int)(r:Ξ)(k:Int):Ξ:=r.map λx=>k * x % p
noncomputable def without (p:Int)(r lead:Ξ)(q:Nat):Ξ:=if e r q=0 then r else List.zipWith (λm t=>(m - e r q * t % p) % p) r lead
noncomputable def J4 (ř:Θ)(start q:Nat):Option Nat:=(List.range' start (ř.length - start)).find? λa=>decide (e (ř.getD a []) q≠0)
noncomputable def cleared (p:Int)(bk:Int->Int)(ř:Θ)(start a q:Nat):Θ:=
 let lead:=scaled p (ř.getD a []) (bk (e (ř.getD a []) q))
 let others:=(ř.take a++ř.drop (a+1)).map λr=>without p r lead q
 others.take start++[lead]++others.drop start
noncomputable def step (p:Int)(bk:Int->Int)(st:List (Ξ)×Nat)(q:Nat):List (Ξ)×Nat:=
 match J4 st.1 st.2 q with
 | none=>st
 | some a=>(cleared p bk st.1 st.2 a q,st.2+1)
noncomputable def run (p:Int)(bk:Int->Int)(ř:Θ)(k:Nat):List (Ξ)×Nat:=(List.range k).foldl (step p bk) (ř,0)
theorem Mz (p:Int)(bk:Int->Int)(ř:Θ)(k:Nat):run p bk ř (k+1)=step p bk (run p bk ř k) k:=by unfold run;rw[Hq,List.foldl_append];rfl
theorem vZ (j:Nat):e (scaled p r k) j=k * e r j % p:=by
 unfold e scaled;rw[DG,DG,DN]
 cases r[j]? with
 | none=>simp
 | some x=>simp
theorem rJ (hp:0<p)(hr:JB p r)(hl:lead.length=r.length)(j:Nat):e (without p r lead q) j=(e r j - e r q * e lead j) % p:=by
 unfold without;by_cases h:e r q=0
 ·rw[h,Hx,Int.sub_zero];have:=hr.at hp j;exact (F9 this.1 this.2).symm
 ·rw[if_neg h];unfold e;rw[DG,Fm];rw[show lead.getD j 0=(lead[j]?).getD 0 from DG ..];by_cases hj:j<r.length
  ·have Rf:j<lead.length:=by omega
   simp only[DF Rf];simp[hj]
  ·have n1:r[j]?=none:=Ed (by omega);have n2:lead[j]?=none:=Ed (by omega);simp[n1,n2]
theorem gB (p x:Int):p ∣ x % p - x:=by refine⟨-(x / p),?_⟩;rw[Int.emod_def,Int.mul_neg];omega
theorem p8 (p k:Int):∀ (r v:Ξ),p ∣ dot (scaled p r k) v - k * dot r v
 | [],v=>by simp[scaled,dot]
 | x::r,[]=>by simp[scaled,dot]
 | x::r,y::v=>by
  have ih:=p8 p k r v;have h:=gB p<|k * x;show p ∣ (k * x % p * y+dot (scaled p r k) v) - k * (x * y+dot r v)
  have:(k * x % p * y+dot (scaled p r k) v) - k * (x * y+dot r v)=(k * x % p - k * x) * y+(dot (scaled p r k) v - k * dot r v):=by rw[Hm,HK,EY k x y];omega
  rw[this];exact FT (GO h) ih
theorem kr (p c:Int):∀ (r lead v:Ξ),lead.length=r.length->p ∣ dot (List.zipWith (λm t=>(m - c * t % p) % p) r lead) v - (dot r v - c * dot lead v)
 | [],[],v,_=>by simp[dot]
 | x::r,y::lead,[],_=>by simp[dot]
 | x::r,y::lead,z::v,h=>by
  have ih:=kr p c r lead v (by simpa using h);have h1:p ∣ (x - c * y % p) % p - (x - c * y):=by rw[Int.sub_emod_emod];exact gB p _
  show p ∣ ((x - c * y % p) % p * z+dot _ v) - (x * z+dot r v - c * (y * z+dot lead v))
  have:((x - c * y % p) % p * z+dot (List.zipWith (λm t=>(m - c * t % p) % p) r lead) v) - (x * z+dot r v - c * (y * z+dot lead v))=((x - c * y % p) % p - (x - c * y)) * z+(dot (List.zipWith (λm t=>(m - c * t % p) % p) r lead) v - (dot r v - c * dot lead v)):=by rw[Hm<|(x - c * y % p) % p,Hm x,HK,EY c y z];omega
  rw[this];exact FT (GO h1) ih
theorem lV (p:Int)(r lead v:Ξ)(q:Nat)(h:lead.length=r.length):p ∣ dot (without p r lead q) v - (dot r v - e r q * dot lead v):=by
 unfold without;by_cases h0:e r q=0
 ·rw[if_pos h0,h0,Hx,Int.sub_zero,Int.sub_self];exact Int.dvd_zero p
 ·rw[if_neg h0];exact kr p _ r _ v h
def Sy (p:Int)(v:Ξ)(ř:Θ):Prop:=∀ r∈ř,p ∣ dot r v
structure Sh (p:Int) (w:Nat) (ř:Θ):Prop where
 LW:∀ r∈ř,r.length=w
 fit:∀ r∈ř,JB p r
def Bk (p:Int)(bk:Int->Int):Prop:=∀ a,0<a->a<p->p ∣ a * bk a - 1
theorem Jz:
  r∈cleared p bk ř start a q ↔ r=scaled p (ř.getD a []) (bk (e (ř.getD a []) q))\/∃ r0∈ř.take a++ř.drop (a+1),r=without p r0 (scaled p (ř.getD a []) (bk (e (ř.getD a []) q))) q:=by
 unfold cleared;simp only;generalize hl:scaled p _ _=lead;generalize hm:(ř.take a++ř.drop _).map (λr=>without p r _ q)=others;have:r∈others.take start++[lead]++others.drop start ↔ r=lead\/r∈others:=by
  constructor
  ·intro h;rcases Ea.mp h with h|h
   ·rcases Ea.mp h with h|h
    ·exact .inr (GD h)
    ·exact .inl (by simpa using h)
   ·exact .inr (Hi h)
  ·intro h;rcases h with h|h
   ·subst h;simp
   ·have:r∈others.take start++others.drop start:=by rw[EF];exact h
    rcases Ea.mp this with h|h
    ·exact Ew _ (Ew _ h)
    ·exact Ec _ h
 rw[this,<- hm];constructor
 ·rintro (h|h)
  ·exact .inl h
  ·obtain⟨r0,h1,h2⟩:=DI.mp h;exact .inr ⟨r0,h1,h2.symm⟩
 ·rintro (h|⟨r0,h1,h2⟩)
  ·exact .inl h
  ·exact .inr (DI.mpr ⟨r0,h1,h2.symm⟩)
theorem iJ {ř:Θ}(ha:a<ř.length)(h:r∈ř):r=ř.getD a []\/r∈ř.take a++ř.drop (a+1):=by
 obtain⟨i,hi,rfl⟩:=FP h;rcases Nat.lt_trichotomy i a with c|c|c
 ·right;refine Ew _ ?_;rw[GJ];exact⟨i,by omega,rfl⟩
 ·left;subst c;simp[hi]
 ·right;refine Ec _ ?_;rw[List.mem_drop_iff_getElem];exact⟨i - (a+1),by omega,by congr 1;omega⟩
theorem gw {ř:Θ}(h:r∈ř.take a++ř.drop (a+1)):r∈ř:=by
 rcases Ea.mp h with h|h
 ·exact GD h
 ·exact Hi h
theorem getD_mem {ř:Θ}(ha:a<ř.length):ř.getD a []∈ř:=by rw[DG,DF ha];exact EB ha
theorem wT (hp:0<p):JB p (scaled p r k):=by intro x hx;obtain⟨y,_,rfl⟩:=DI.mp hx;exact⟨EM _<|by omega,EC _ hp⟩
theorem uB (hp:0<p)(h:JB p r):JB p (without p r lead q):=by
 unfold without;split
 ·exact h
 ·intro x hx;obtain⟨i,hi,rfl⟩:=FP hx;rw[Hk];exact⟨EM _<|by omega,EC _ hp⟩
theorem uA (h:lead.length=r.length):(without p r lead q).length=r.length:=by
 unfold without;split
 ·rfl
 ·rw[Hs];omega
theorem Sh.cleared {p:Int}{bk:Int->Int}{w:Nat}{ř:Θ}{start a q:Nat} (hp:0<p) (S:Sh p w ř) (ha:a<ř.length):Sh p w (cleared p bk ř start a q):=by
 have hl:(scaled p (ř.getD a [])<|bk (e (ř.getD a []) q)).length=w:=by unfold scaled;rw[DH];exact S.LW _ (getD_mem ha)
 refine⟨λr hr=>?_,λr hr=>?_⟩
 ·rcases Jz.mp hr with rfl|⟨r0,h0,rfl⟩
  ·exact hl
  ·have:=S.LW r0<|gw h0;rw[uA<|by omega];exact this
 ·rcases Jz.mp hr with rfl|⟨r0,h0,rfl⟩
  ·exact wT hp
  ·exact uB hp (S.fit r0<|gw h0)
theorem vI (hp:0<p)(hb:Bk p bk)(S:Sh p w ř)(ha:a<ř.length)(h0:e (ř.getD a []) q≠0):
  Sy p v (cleared p bk ř start a q) ↔ Sy p v ř:=by
 have hm:=getD_mem ha;have hf:=(S.fit _ hm).at hp q;generalize hx:e _ q=x at *
 have Oc:=hb x (by omega) hf.2;have hl:=λr (hr:r∈ř)=>show (scaled p _<|bk x).length=r.length by unfold scaled;rw[DH,S.LW _ hm,S.LW _ hr]
 have d1:=p8 p (bk x) (ř.getD a []) v;constructor
 ·intro K r hr;have k1:=K _<|Jz.mpr (.inl<|by rw[hx]);rcases iJ ha hr with rfl|h
  ·
   have a1:p ∣ bk x * dot (ř.getD a []) v:=by have:=Gf k1 d1;rwa [show dot _ v - _=bk x * dot (ř.getD a []) v by omega]at this
   have a2:p ∣ _ * dot (ř.getD a []) v:=GO Oc;have a3:p ∣ x * _:=EN a1;have:=Gf a3 a2;rwa [show x * _ - _ * dot _ v=dot (ř.getD a []) v by rw[Hm,EY];omega]at this
  ·have k2:=K _<|Jz.mpr (.inr ⟨r,h,by rw[hx]⟩);have d2:=lV p r _ v q<|hl r hr;have a1:=Gf k2 d2;have a2:p ∣ e r q * dot _ v:=EN k1;have:=FT a1 a2;rwa [show dot _ v - _+e r q * dot _ v=dot r v by omega]at this
 ·intro K r hr;have k1:p ∣ dot (scaled p (ř.getD a [])<|bk x) v:=by have a1:p ∣ bk x * dot _ v:=EN<|K _ hm;have:=FT d1 a1;rwa [show dot _ v - bk x * dot _ v+bk x * dot _ v=dot (scaled p (ř.getD a [])<|bk x) v by omega]at this
  rcases Jz.mp hr with rfl|⟨r0,h0,rfl⟩
  ·rw[hx];exact k1
  ·rw[hx];have ZY:=gw h0;have d2:=lV p r0 _ v q<|hl r0 ZY;have a2:p ∣ dot r0 v - e r0 q * dot _ v:=Gf (K r0 ZY)<|EN k1;have:=FT d2 a2;rwa [show dot _ v - _+_=dot (without p r0 (scaled p (ř.getD a [])<|bk x) q) v by omega]at this
structure RR (p:Int) (w k:Nat) (ř:Θ) (ps:À):Prop where
 sh:Sh p w ř
 len:ps.length<=ř.length
 lt:∀ q∈ps,q<k
 inc:ps.Pairwise (·<·)
 one:∀ (i q:Nat),ps[i]?=some q->e (ř.getD i []) q=1
 Zw:∀ (i j q:Nat),ps[j]?=some q->i≠j->e (ř.getD i []) q=0
 lead:∀ (i q q':Nat),ps[i]?=some q->q'<q->e (ř.getD i []) q'=0
 rest:∀ (i q:Nat),ps.length<=i->q<k->e (ř.getD i []) q=0
theorem BP (q:Nat):e [] q=0:=by simp[e]
theorem RR.start (S:Sh p w ř):RR p w 0 ř []:=
 ⟨S,EE _,(λ_ h=>nomatch h),List.Pairwise.nil,λi q h=>by simp at h,λi j q h=>by simp at h,λi q q' h=>by simp at h,λi q _ h=>absurd h<|Ho _⟩
theorem sT (h:J4 ř start q=none):∀ i,start<=i->e (ř.getD i []) q=0:=by
 intro i hi;by_cases hl:i<ř.length
 ·unfold J4 at h;rw[EU]at h;have:=h i (by rw[List.mem_range'];exact⟨i - start,by omega,by omega⟩);simpa using this
 ·rw[DG,Ed<|by omega];exact BP q
theorem MA (h:J4 ř start q=some a):start<=a/\a<ř.length/\e (ř.getD a []) q≠0:=by have h1:=Fy h;have h2:=ED h;rw[List.mem_range']at h2;obtain⟨i,hi,rfl⟩:=h2;refine⟨by omega,by omega,by simpa using h1⟩
theorem iB (ha:a<ř.length)(hs:start<=a):(cleared p bk ř start a q).length=ř.length:=by unfold cleared;simp only[DT,E4,GI,DH,Eu,FY];omega
theorem cT (ha:a<ř.length)(hs:start<=a)(i:Nat)(hi:i<ř.length):
  ∃ lead,lead=scaled p (ř.getD a []) (bk (e (ř.getD a []) q))/\
   ((i<start/\(cleared p bk ř start a q).getD i []=without p (ř.getD i []) lead q)\/(i=start/\(cleared p bk ř start a q).getD i []=lead) \/
    (start<i/\∃ i',start<=i'/\i'<ř.length/\i'≠a/\(cleared p bk ř start a q).getD i []=without p (ř.getD i' []) lead q)):=by
 refine⟨_,rfl,?_⟩;unfold cleared;simp only;generalize scaled p _ _=lead;have hol:((ř.take a++ř.drop (a+1)).map λr=>without p r lead q).length=ř.length - 1:=by simp only[DH,DT,E4,GI];omega
 have hoa:∀ j,j<ř.length - 1->((ř.take a++ř.drop (a+1)).map λr=>without p r lead q)[j]?=some (without p (ř.getD (if j<a then j else j+1) []) lead q):=by
  intro j hj;rw[DN];by_cases c:j<a
  ·rw[Em (by rw[E4];omega),EK c,if_pos c,DG,DF<|by omega];rfl
  ·rw[Es (by rw[E4];omega),E4,Gs,if_neg c];have:a+1+(j - min a ř.length)=j+1:=by omega
   rw[this,DG,DF<|by omega];rfl
 generalize ((ř.take a++ř.drop (a+1)).map λr=>without p r lead q)=others at hol hoa;rw[DG];rcases Nat.lt_trichotomy i _ with c|c|c
 ·left;refine⟨c,?_⟩;rw[Ez,Em (by rw[E4];omega),EK c,hoa i<|by omega,if_pos<|by omega];rfl
 ·right;left;refine⟨c,?_⟩;subst c;rw[Ez,Es (by rw[E4];omega),E4];have:i - min i others.length=0:=by omega
  rw[this];rfl
 ·right;right;refine⟨c,if i - 1<a then i - 1 else i - 1+1,?_,?_,?_,?_⟩
  ·split <;> omega
  ·split <;> omega
  ·split <;> omega
  ·rw[Es (by rw[DT,E4,EI];omega),DT,E4,EI,Gs];have:start+(i - (min start others.length+1))=i - 1:=by omega
   rw[this,hoa _<|by omega];rfl
theorem RR.step (hp:1<p)(hb:Bk p bk)(R:RR p w k ř ps):
  ∃ Ry,Mx.step p bk (ř,ps.length) k=((Mx.step p bk (ř,ps.length) k).1,Ry.length)/\RR p w (k+1) (Mx.step p bk (ř,ps.length) k).1 Ry/\(Mx.step p bk (ř,ps.length) k).1.length=ř.length/\∀ v,Sy p v (Mx.step p bk (ř,ps.length) k).1 ↔ Sy p v ř:=by
 unfold Mx.step
 cases h:J4 ř ps.length k with
 | none=>
  have z:=sT h;refine⟨ps,rfl,⟨R.sh,R.len,λq hq=>HH<|R.lt q hq,R.inc,R.one,R.Zw,R.lead,λi q hi hq=>?_⟩,rfl,λv=>Iff.rfl⟩;rcases Nat.lt_succ_iff_lt_or_eq.mp hq with c|c
  ·exact R.rest i q hi c
  ·subst c;exact z i hi
 | some a=>
  obtain⟨hs,ha,h0⟩:=MA h;have RL:0<p:=by omega
  have hm:=getD_mem ha;have hf:=(R.sh.fit _ hm).at RL k;refine⟨ps++[k],by simp,?_,iB ha hs,λv=>vI RL hb R.sh ha h0⟩;have hlen:=iB (p:=p) (bk:=bk) (q:=k) ha hs;have Oc:=hb _ (by omega) hf.2;have l1:e (scaled p (ř.getD a [])<|bk (e (ř.getD a []) k)) k=1:=by rw[vZ,Fv];have:=(FI).mpr<|FH Oc;rw[this];exact F9 (by omega) hp
  have l0:∀ q,q<k->e (scaled p (ř.getD a [])<|bk (e (ř.getD a []) k)) q=0:=λq hq=>by rw[vZ,R.rest a q hs hq,Int.mul_zero,Int.zero_emod]
  have wz:∀ (i:Nat)(lead:Ξ),i<ř.length->lead=scaled p (ř.getD a []) (bk<|e (ř.getD a []) k)->
    e (without p (ř.getD i []) lead k) k=0/\∀ q,q<k->e (without p (ř.getD i []) lead k) q=e (ř.getD i []) q:=by
   intro i lead hi hl;have hmi:=getD_mem hi;have hll:lead.length=(ř.getD i []).length:=by rw[hl];unfold scaled;rw[DH,R.sh.LW _ hm,R.sh.LW _ hmi]
   refine⟨?_,λq hq=>?_⟩
   ·rw[rJ RL (R.sh.fit _ hmi) hll,hl,l1,HJ,Int.sub_self,Int.zero_emod]
   ·rw[rJ RL (R.sh.fit _ hmi) hll,hl,l0 q hq,Int.mul_zero,Int.sub_zero];have:=(R.sh.fit _ hmi).at RL q;exact F9 this.1 this.2
  have out:∀ i,¬ i<ř.length->(cleared p bk ř ps.length a k).getD i []=[]:=λi hi=>by rw[DG,Ed<|by omega];rfl
  have psk:∀ (i q:Nat),(ps++[k])[i]?=some q->(i<ps.length/\ps[i]?=some q)\/(i=ps.length/\q=k):=λi q hq=>by
   by_cases c:i<ps.length
   ·rw[Em c]at hq;exact .inl ⟨c,hq⟩
   ·rw[Es<|by omega]at hq;by_cases c2:i - ps.length=0
    ·rw[c2]at hq;simp at hq;exact .inr ⟨by omega,hq.symm⟩
    ·rw[Ed (by simp;omega)]at hq;cases hq
  have plt:∀ (i q:Nat),ps[i]?=some q->q<k:=λi q hq=>R.lt q<|DO hq;refine⟨R.sh.cleared RL ha,by rw[hlen,DT,EI];omega,λq hq=>?_,?_,λi q hq=>?_,λi j q hq hij=>?_,λi q q' hq P'=>?_,λi q hi hq=>?_⟩
  ·rcases Ea.mp hq with c|c
   ·exact HH (R.lt q c)
   ·have:q=k:=by simpa using c
    omega
  ·rw[List.pairwise_append];refine⟨R.inc,List.pairwise_singleton _ _,λx hx y hy=>?_⟩;have:y=k:=by simpa using hy
   rw[this];exact R.lt x hx
  ·
   rcases psk i q hq with⟨c,hq⟩|⟨c,rfl⟩
   ·obtain⟨lead,hl,d⟩:=cT ha hs i (by omega);rcases d with⟨_,d⟩|⟨d,_⟩|⟨d,_⟩
    ·rw[d,(wz i lead (by omega) hl).2 q<|plt i q hq];exact R.one i q hq
    ·omega
    ·omega
   ·obtain⟨lead,hl,d⟩:=cT ha hs i (by omega);rcases d with⟨d,_⟩|⟨_,d⟩|⟨d,_⟩
    ·omega
    ·rw[d,hl];exact l1
    ·omega
  ·
   by_cases hi:i<ř.length
   ·obtain⟨lead,hl,d⟩:=cT ha hs i hi;rcases psk j q hq with⟨c,hq⟩|⟨c,rfl⟩
    ·have hk:=plt j q hq;rcases d with⟨_,d⟩|⟨d1,d⟩|⟨_,i',d1,d2,_,d⟩
     ·rw[d,(wz i lead hi hl).2 q hk];exact R.Zw i j q hq hij
     ·rw[d,hl];exact l0 q hk
     ·rw[d,(wz i' lead d2 hl).2 q hk];exact R.rest i' q d1 hk
    ·rcases d with⟨_,d⟩|⟨d1,d⟩|⟨_,i',d1,d2,_,d⟩
     ·rw[d];exact (wz i lead hi hl).1
     ·omega
     ·rw[d];exact (wz i' lead d2 hl).1
   ·rw[out i hi];exact BP q
  ·
   rcases psk i q hq with⟨c,hq⟩|⟨c,rfl⟩
   ·have hk:=plt i q hq;obtain⟨lead,hl,d⟩:=cT ha hs i (by omega);rcases d with⟨_,d⟩|⟨d,_⟩|⟨d,_⟩
    ·rw[d,(wz i lead (by omega) hl).2 q'<|by omega];exact R.lead i q q' hq P'
    ·omega
    ·omega
   ·obtain⟨lead,hl,d⟩:=cT ha hs i (by omega);rcases d with⟨d,_⟩|⟨_,d⟩|⟨d,_⟩
    ·omega
    ·rw[d,hl];exact l0 q' P'
    ·omega
  ·
   rw[DT,EI]at hi;by_cases hil:i<ř.length
   ·obtain⟨lead,hl,d⟩:=cT ha hs i hil;rcases d with⟨d,_⟩|⟨d,_⟩|⟨_,i',d1,d2,_,d⟩
    ·omega
    ·omega
    ·rcases Nat.lt_succ_iff_lt_or_eq.mp hq with c|c
     ·rw[d,(wz i' lead d2 hl).2 q c];exact R.rest i' q d1 c
     ·subst c;rw[d];exact (wz i' lead d2 hl).1
   ·rw[out i hil];exact BP q
theorem RR.run (hp:1<p)(hb:Bk p bk)(S:Sh p w ř):∀ k,∃ ps,(Mx.run p bk ř k).2=ps.length/\RR p w k (Mx.run p bk ř k).1 ps/\(Mx.run p bk ř k).1.length=ř.length/\∀ v,Sy p v (Mx.run p bk ř k).1 ↔ Sy p v ř
 | 0=>⟨[],rfl,RR.start S,rfl,λv=>Iff.rfl⟩
 | k+1=>by
  obtain⟨ps,h1,h2,h3,h4⟩:=RR.run (bk:=bk) hp hb S k;rw[Mz];have e1:Mx.run p bk ř k=((Mx.run p bk ř k).1,ps.length):=by rw[<- h1]
  rw[e1];obtain⟨Ry,g1,g2,g3,g4⟩:=h2.step hp hb;exact⟨Ry,by rw[g1],g2,g3.trans h3,λv=>(g4 v).trans<|h4 v⟩
noncomputable def Io (r:Ξ)(m:Nat):Option Nat:=(List.range m).find? λq=>decide (e r q≠0)
noncomputable def II (ř:Θ)(m:Nat):À:=(ř.map λr=>Io r m).filterMap id
theorem mK (hq:q<m)(h1:e r q≠0)(h0:∀ q',q'<q->e r q'=0):Io r m=some q:=by unfold Io;rw[List.find?_range_eq_some];exact⟨by simpa using h1,Eg.mpr hq,λj hj=>by simpa using h0 j hj⟩
theorem mL (h0:∀ q,q<m->e r q=0):Io r m=none:=by unfold Io;rw[EU];intro q hq;simpa using h0 q (Eg.mp hq)
theorem J0 (R:RR p w m ř ps):II ř m=ps:=by
 have:ř.map (λr=>Io r m)=ps.map some++List.replicate (ř.length - ps.length) none:=by
  apply GB;intro i;rw[DN];have hl:=R.len;by_cases hi:i<ř.length
  ·rw[DF hi];have eg:ř.getD i []=ř[i]:=by rw[DG,DF hi];rfl
   by_cases c:i<ps.length
   ·rw[Em<|by simpa using c,DN,DF c];have hq:=DF c;have:=mK (R.lt _<|EB c) (by rw[R.one i _ hq];decide) λq' P'=>R.lead i _ q' hq P';rw[eg]at this;show some (Io ř[i] m)=some _;rw[this]
   ·rw[Es (by simp;omega),GN,if_pos (by simp;omega)];have:=mL λq hq=>R.rest i q (by omega) hq;rw[eg]at this;show some (Io ř[i] m)=some none;rw[this]
  ·rw[Ed<|by omega,Ed (by simp;omega)];rfl
 unfold II;rw[this,List.filterMap_append];have a1:∀ l:À,(l.map some).filterMap id=l:=λl=>by simp
 have a2:∀ n,(List.replicate n (none:Option Nat)).filterMap id=[]:=λn=>by
  induction n with
  | zero=>rfl
  | succ n ih=>exact ih
 rw[a1,a2,El]
theorem iK:∀ (ps:À)(s m:Nat),ps.Pairwise (·<·)->(∀ q∈ps,s<=q/\q<s+m)->ps.length<=m/\(ps.length=m->ps=List.range' s m)
 | [],s,m,_,_=>by refine⟨EE _,λh=>?_⟩;have:m=0:=h.symm;subst this;rfl
 | a::ps,s,0,_,h=>by have:=h a E7;omega
 | a::ps,s,m+1,hp,h=>by
  obtain⟨h1,h2⟩:=List.pairwise_cons.mp hp;have ha:=h a E7;have ih:=iK ps (s+1) m h2 λq hq=>⟨by have:=h1 q hq;omega,by have:=(h q<|E6 _ hq).2;omega⟩;refine⟨by simp;exact ih.1,λhl=>?_⟩;have e1:=ih.2 (by simpa using hl);rw[List.range'_succ];have:a=s:=by
   rcases Nat.lt_or_ge s a with c|c
   ·exfalso;have ih2:=iK ps (s+2) (m - 1) h2 λq hq=>⟨by have:=h1 q hq;omega,by have:=(h q<|E6 _ hq).2;have:=h1 q hq;omega⟩;have:ps.length=m:=by simpa using hl
    by_cases hm:m=0
    ·subst hm;have:=(h a E7).2;omega
    ·omega
   ·omega
  rw[this,e1]
theorem RR.all (R:RR p w m ř ps)(h:ps.length=m):ps=List.range m:=by have:=(iK ps 0 m R.inc λq hq=>⟨EE _,by have:=R.lt q hq;omega⟩).2 h;rw[this,List.range_eq_range']
theorem RR.IX (R:RR p w m ř ps):ps.length<=m:=
 (iK ps 0 m R.inc λq hq=>⟨EE _,by have:=R.lt q hq;omega⟩).1
theorem u7 (h:q<m):e (r.take m) q=e r q:=by unfold e;rw[DG,DG,EK h]
theorem iX {ř:Θ}:(ř.map (List.take m)).getD a []=(ř.getD a []).take m:=by
 rw[DG,DG,DN]
 cases ř[a]? with
 | none=>simp
 | some x=>rfl
theorem sS (h:q<m):J4 (ř.map (List.take m)) start q=J4 ř start q:=by unfold J4;rw[DH];congr 1;funext a;rw[iX,u7 h]
theorem sf (h:q<m):without p (r.take m) (lead.take m) q=(without p r lead q).take m:=by
 unfold without;rw[u7 h];split
 ·rfl
 ·rw[List.take_zipWith]
theorem uJ:scaled p (r.take m) k=(scaled p r k).take m:=by unfold scaled;rw[FR]
theorem uc (h:q<m):cleared p bk (ř.map (List.take m)) start a q=(cleared p bk ř start a q).map (List.take m):=by
 unfold cleared;simp only;rw[iX,u7 h,uJ];generalize scaled p _ _=lead;have:((ř.map<|List.take m).take a++(ř.map<|List.take m).drop (a+1)).map (λr=>without p r (lead.take m) q)=((ř.take a++ř.drop (a+1)).map λr=>without p r lead q).map (List.take m):=by rw[<- FR,<- He,<- DP,DL,DL];apply E9;intro r _;exact sf h
 rw[this];simp only[DP,FR,He,DX,Fu]
theorem Pk:∀ k,k<=m->run p bk (ř.map (List.take m)) k=((run p bk ř k).1.map (List.take m),(run p bk ř k).2)
 | 0,_=>rfl
 | k+1,h=>by
  rw[Mz,Mz,Pk k<|by omega];unfold step;simp only[];rw[sS<|by omega]
  cases J4 (run p bk ř k).1 (run p bk ř k).2 k with
  | none=>rfl
  | some a=>simp only[];rw[uc<|by omega]
theorem p9:∀ (x a y b:Ξ),x.length=a.length->dot (x++y) (a++b)=dot x a+dot y b
 | [],[],y,b,_=>by simp[dot]
 | u::x,v::a,y,b,h=>by show u * v+dot (x++y) (a++b)=u * v+dot x a+dot y b;rw[p9 x a y b<|by simpa using h];omega
theorem yS:∀ (x v:Ξ),dot x (v.map λt=>-t)=- dot x v
 | [],v=>by simp[dot]
 | a::x,[]=>by simp[dot]
 | a::x,b::v=>by
  show a * -b+dot x (v.map λt=>-t)=-(a * b+dot x v)
  rw[yS x v,Int.mul_neg];omega
noncomputable def joined (t:Θ):Θ:=List.zipWith (λr o=>r++o) t (ones t.length)
theorem Ic (n i:Nat):(HL n i).length=n:=by simp[HL]
theorem eS (hp:1<p)(n i:Nat):JB p (HL n i):=by intro x hx;obtain⟨j,_,rfl⟩:=DI.mp hx;split <;> omega
theorem qY (t:Θ)(i:Nat)(hi:i<t.length):(joined t)[i]?=some (t[i]++HL t.length i):=by unfold joined ones;rw[Fm,DF hi,DN,Fh hi];rfl
theorem Je (t:Θ):(joined t).length=t.length:=by simp[joined,ones]
theorem jq (h:r∈joined t):∃ i,∃ (hi:i<t.length),r=t[i]++HL t.length i:=by
 obtain⟨i,hi,rfl⟩:=FP h;have OU:i<t.length:=by rw[Je]at hi;exact hi
 refine⟨i,OU,?_⟩;have:=qY t i OU;rw[DF hi]at this;exact Option.some.inj this
theorem LJ (hp:1<p)(S:Sh p m t):Sh p (m+t.length) (joined t):=by
 refine⟨λr hr=>?_,λr hr=>?_⟩
 ·obtain⟨i,hi,rfl⟩:=jq hr;rw[DT,Ic,S.LW _<|EB hi]
 ·obtain⟨i,hi,rfl⟩:=jq hr;intro x hx;rcases Ea.mp hx with h|h
  ·exact S.fit _ (EB hi) x h
  ·exact eS hp _ _ x h
theorem Pq (S:Sh p m t):(joined t).map (List.take m)=t:=by
 apply GB;intro i;rw[DN];by_cases hi:i<t.length
 ·rw[qY t i hi,DF hi];show some _=some t[i];rw[Hh (by rw[S.LW _<|EB hi];exact DV _),Ff (by rw[S.LW _<|EB hi];exact DV _)]
 ·rw[Ed (by rw[Je];omega),Ed<|by omega];rfl
noncomputable def QB (t:Θ)(m j:Nat):Ξ:=(HL m j).map (λx=>-x)++col t j
theorem yR (hr:r.length=m+n):dot r (QB t m j)=dot (r.drop m) (col t j) - e r j % 1 * 0 - (if j<m then e r j else 0):=by
 have:=(EF m r).symm;unfold QB
 conv=>lhs;rw[this]
 rw[p9 _ _ _ _ (by rw[DH,Ic,E4];omega),yS,IP,IY m j _ (by rw[E4];omega)];by_cases c:j<m
 ·have:(r.take m).getD j 0=e r j:=u7 c;omega
 ·have:(r.take m).getD j 0=0:=by rw[DG,Ed (by rw[E4];omega)];rfl
  omega
theorem xG (S:Sh p m t)(j:Nat)(hj:j<m):Sy p (QB t m j) (joined t):=by
 intro r hr;obtain⟨i,hi,rfl⟩:=jq hr;have hw:=S.LW _<|EB hi;rw[yR<|by rw[DT,hw]];have e1:(t[i]++HL t.length i).drop m=HL t.length i:=by rw[List.drop_append_of_le_length<|by omega,List.drop_of_length_le<|by omega];rfl
 have e2:e (t[i]++HL t.length i) j=e t[i] j:=by unfold e;rw[DG,DG,Em<|by omega]
 rw[e1,IY _ _ _<|by simp[col]];have e3:(col t j).getD i 0=e t[i] j:=by unfold col;simp[hi]
 exact⟨0,by omega⟩
theorem QE (hp:1<p)(S:Sh p m t)(R:RR p (m+t.length) m ř ps)(Sg:ps=List.range m)(hl:ř.length=t.length)(hk:∀ v,Sy p v ř ↔ Sy p v (joined t))(i j:Nat)(hi:i<m)(hj:j<m):dot ((ř.getD i []).drop m) (col t j) % p=if i=j then 1 else 0:=by
 have L':ps.length=m:=by rw[Sg];simp
 have hir:i<ř.length:=by have:=R.len;omega
 have hm:=getD_mem hir;have k:=(hk _).mpr (xG S j hj) _ hm;rw[yR<|R.sh.LW _ hm]at k;have pj:ps[j]?=some j:=by rw[Sg];exact Fh hj
 have er:e (ř.getD i []) j=if i=j then 1 else 0:=by
  by_cases c:i=j
  ·subst c;rw[if_pos rfl];exact R.one i i pj
  ·rw[if_neg c];exact R.Zw i j j pj c
 have k':p ∣ dot ((ř.getD i []).drop m) (col t j) - (if i=j then 1 else 0):=by rwa [show dot _ _ - _ % 1 * 0 - _=dot ((ř.getD i []).drop m) (col t j) - (if i=j then 1 else 0) by omega]at k
 have:=FI.mpr<|FH k';rw[this];exact F9 (by split <;> omega) (by split <;> omega)
noncomputable def JC (p:Int)(u:Nat):List (List Int×Nat)->List Int->Ξ
 | [],v=>v
 | (r,q)::rest,v=>JC p u rest (v.set q ((0 - e r u) % p))
abbrev _root_.Î:=List (List Int×Nat)
theorem iU (p:Int)(u:Nat):∀ (l:Î)(v:Ξ),(JC p u l v).length=v.length
 | [],v=>rfl
 | (r,q)::rest,v=>by show (JC p u rest _).length=_;rw[iU p u rest,List.length_set]
theorem j7 (p:Int)(u:Nat):∀ (l:Î)(v:Ξ)(j:Nat),(∀ x∈l,x.2≠j)->e (JC p u l v) j=e v j
 | [],v,j,_=>rfl
 | (r,q)::rest,v,j,h=>by show e (JC p u rest _) j=_;rw[j7 p u rest _ j λx hx=>h x<|E6 _ hx];have:=h (r,q) E7;simp only[e,DG,GF this]
theorem qr (p:Int)(u:Nat):∀ (l:Î)(v:Ξ)(r:Ξ)(q:Nat),(r,q)∈l->(l.map (·.2)).Pairwise (·<·)->q<v.length->e (JC p u l v) q=(0 - e r u) % p
 | (r',q')::rest,v,r,q,h,hp,hq=>by
  show e (JC p u rest _) q=_;obtain⟨h1,h2⟩:=List.pairwise_cons.mp hp;rcases E3.mp h with c|c
  ·obtain⟨c1,c2⟩:=Prod.mk.inj c;rw[<- c2,<- c1];rw[<- c2]at h1;rw[j7 p u rest _ q (λx hx=>by have:q<x.2:=h1 x.2<|DI.mpr ⟨x,hx,rfl⟩;omega)];simp only[e,DG,Gr hq];rfl
  ·exact qr p u rest _ r q c h2 (by rw[List.length_set];exact hq)
theorem nE (hp:0<p)(u:Nat):∀ (l:Î)(v:Ξ),JB p v->JB p (JC p u l v)
 | [],v,h=>h
 | (r,q)::rest,v,h=>by
  show JB p (JC p u rest _);refine nE hp u rest _ λx hx=>?_;rcases List.mem_or_eq_of_mem_set hx with c|c
  ·exact h x c
  ·subst c;exact⟨EM _<|by omega,EC _ hp⟩
noncomputable def eI (f:Nat->Int):Nat->Int
 | 0=>0
 | n+1=>eI f n+f n
theorem lK (f:Nat->Int):∀ n,eI f (n+1)=f 0+eI (λj=>f (j+1)) n
 | 0=>by simp[eI]
 | n+1=>by rw[eI,lK f n,eI];omega
theorem lC:∀ (x v:Ξ),x.length=v.length->dot x v=eI (λj=>e x j * e v j) x.length
 | [],[],_=>rfl
 | a::x,b::v,h=>by show a * b+dot x v=_;rw[lC x v<|by simpa using h,Eu,lK];rfl
theorem j5:∀ n,(∀ j,j<n->f j=0)->eI f n=0
 | 0,_=>rfl
 | n+1,h=>by rw[eI,j5 n λj hj=>h j<|by omega,h n<|by omega];rfl
theorem kL:∀ n,a<n->(∀ j,j<n->j≠a->f j=0)->eI f n=f a
 | n+1,ha,h=>by
  rw[eI];by_cases c:a=n
  ·subst c;rw[j5 a λj hj=>h j (by omega)<|by omega];omega
  ·rw[kL n (by omega) λj hj VP=>h j (by omega) VP,h n (by omega)<|Ne.symm c];omega
theorem qo:∀ n,a<n->b<n->a≠b->(∀ j,j<n->j≠a->j≠b->f j=0)->eI f n=f a+f b
 | n+1,ha,hb,YG,h=>by
  rw[eI];by_cases c:a=n
  ·subst c;rw[kL a (a:=b) (by omega) λj hj Yw=>h j (by omega) (by omega) Yw];omega
  ·by_cases d:b=n
   ·subst d;rw[kL b (a:=a) (by omega) λj hj VP=>h j (by omega) VP<|by omega]
   ·rw[qo n (by omega) (by omega) YG λj hj VP Yw=>h j (by omega) VP Yw,h n (by omega) (Ne.symm c)<|Ne.symm d];omega
noncomputable def Iw (p:Int)(ř:Θ)(ps:À)(m u:Nat):Ξ:=JC p u (ř.zip ps) (HL m u)
theorem lB (m u j:Nat):e (HL m u) j=if j<m/\j=u then 1 else 0:=by
 unfold e HL;by_cases c:j<m
 ·simp[c]
 ·simp[c]
theorem QI (hp:1<p)(R:RR p m m ř ps)(hu:u<m)(Ya:u∉ps):
  Sy p (Iw p ř ps m u) ř/\e (Iw p ř ps m u) u=1/\(Iw p ř ps m u).length=m/\JB p (Iw p ř ps m u):=by
 have Qr:((ř.zip ps).map (·.2))=ps:=by rw[List.map_snd_zip];have:=R.len;omega
 have hlen:(Iw p ř ps m u).length=m:=by unfold Iw;rw[iU,Ic]
 have a1C:∀ x∈ř.zip ps,x.2∈ps:=λx hx=>(FO hx).2;have out:∀ j,j∉ps->e (Iw p _ ps m u) j=if j<m/\j=u then 1 else 0:=λj hj=>by unfold Iw;rw[j7 p u _ _ j λx hx z=>hj<|z▸a1C x hx,lB]
 have inn:∀ (i q:Nat),ps[i]?=some q->e (Iw p _ ps m u) q=(0 - e (ř.getD i []) u) % p:=λi q hq=>by
  have hi:=(DJ.mp hq).1;have hir:i<ř.length:=by have:=R.len;omega
  refine qr p u _ _ _ q ?_ (by rw[Qr];exact R.inc) (by rw[Ic];exact R.lt q<|DO hq);rw[Fj];refine⟨i,?_⟩;rw[HE];refine⟨?_,hq⟩;rw[DG,DF hir];rfl
 refine⟨λr hr=>?_,by rw[out u Ya,if_pos ⟨hu,rfl⟩],hlen,?_⟩
 ·obtain⟨i,hi,rfl⟩:=FP hr;have eg:ř[i]=ř.getD i []:=by rw[DG,DF hi];rfl
  rw[eg];have hw:=R.sh.LW _<|getD_mem hi;rw[lC _ _<|by rw[hw,hlen],hw];by_cases c:i<ps.length
  ·have hq:=DF c;have hqm:=R.lt _<|EB c;have Qt:ps[i]≠u:=λz=>Ya<|z▸EB c;rw[qo m hqm hu Qt (λj hj VP Yw=>?_)]
   ·rw[R.one i _ hq,inn i _ hq,out u Ya,if_pos ⟨hu,rfl⟩,Int.one_mul,HJ];have:=gB p<|0 - e (ř.getD i []) u;rwa [show _ % p - _=(0 - e (ř.getD i []) u) % p+e (ř.getD i []) u by omega]at this
   ·by_cases Rf:j∈ps
    ·obtain⟨i',OU,e'⟩:=FP Rf;have P':ps[i']?=some j:=by rw[DF OU,e']
     have:i≠i':=λz=>by subst z;exact VP e'.symm
     rw[R.Zw i i' j P' this,Hx]
    ·rw[out j Rf,if_neg λz=>Yw z.2,Int.mul_zero]
  ·rw[j5 m λj hj=>by rw[R.rest i j (by omega) hj,Hx]];exact Int.dvd_zero p
 ·exact nE (by omega) u _ _ (eS hp m u)
end Mx
namespace My
noncomputable def JK (n:Int):Bool:=@decide (2<=n/\∀ e:Int,2<=e->e * e<=n->Int.fmod n e≠0) (Classical.propDecidable _)
theorem HY (n:Int):JK n=true ↔ (2<=n/\∀ e:Int,2<=e->e * e<=n->Int.fmod n e≠0):=by exact @FC _ (Classical.propDecidable _)
theorem BG (hp:JK p=true)(h2:2<=r)(hr:r<p):Int.fmod p r≠0:=by
 intro h0;obtain⟨_,h⟩:=(HY p).mp hp;have hq:p=r * Int.fdiv p r:=by have:=Int.fmod_def p r;omega
 generalize Int.fdiv p r=q at hq;have Yk:2<=q:=by
  rcases Int.lt_or_le q 2 with c|c
  ·exfalso;have:r * q<=r * 1:=Gp (by omega) (by omega);omega
  ·exact c
 rcases Int.le_total r q with c|c
 ·have:r * r<=r * q:=Gp c (by omega);exact h r h2 (by omega) h0
 ·have:q * q<=r * q:=Int.mul_le_mul_of_nonneg_right c (by omega);refine h q Yk (by omega) ?_;rw[hq,Int.mul_fmod_left]
noncomputable def chk (p:Nat):Bool:=decide (2<=p)&&(List.range 1000).all λe=>decide (e<2) || decide (p<e * e) || decide (p % e≠0)
theorem SV (h:chk p=true)(hp:p<1000000):JK (p:Int)=true:=by
 unfold chk at h;rw[F6]at h;obtain⟨h1,h2⟩:=h;have h1:=DZ h1;rw[HY];refine⟨by omega,λe he hee h0=>?_⟩;obtain⟨k,rfl⟩:∃ k:Nat,e=(k):=⟨e.toNat,by omega⟩
 have hk:k<1000:=by
  rcases Nat.lt_or_ge k 1000 with c|c
  ·exact c
  ·have:=Nat.mul_le_mul c c;omega
 have:=(Fs.mp h2) k<|Eg.mpr hk;simp only[Gy,FZ]at this;rcases this with (c|c)|c
 ·omega
 ·omega
 ·apply c;have:Int.fmod (p) (k)=((p % k:Nat)):=by rw[EH _<|by omega];rfl
  rw[this]at h0
  exact_mod_cast h0
structure Inv (p a rest made:Int):Prop where
 eq:(made * a - rest) % p=0
 lo:0<=made
 hi:made<p
theorem O1 (hp:2<=p)(hr:Int.fmod a p=r):Inv p a r 1:=by refine⟨?_,by omega,by omega⟩;rw[Int.one_mul,<- hr,EH _<|by omega];exact FI.mp (Int.emod_emod_of_dvd _<|Int.dvd_refl _).symm
theorem yZ (h:Inv p a r m)(hp:2<=p)(hr:0<r):Inv p a (Int.fmod p r) (Int.fmod (m * (0 - Int.fdiv p r)) p):=by
 have e1:=Int.fmod_def p r;generalize Int.fdiv p r=q at *
 rw[e1];rw[EH _<|by omega];refine⟨?_,EM _<|by omega,EC _<|by omega⟩;have h0:=h.eq;obtain⟨k,hk⟩:=ER h0;have e2:m * _ % p=m * (0 - q) - p * _:=Int.emod_def ..;rw[e2];generalize m * _ / p=z;apply FH;refine⟨- z * a - q * k - 1,?_⟩;have e3:m * a=r+p * k:=by omega
 have:(m * (0 - q) - p * z) * a - (p - r * q)=- q * (m * a) - p * z * a - p+r * q:=by
  simp only[Hm,Int.mul_sub,Int.neg_mul];have:m * q * a=q * (m * a):=by rw[Fv m q,EY]
  omega
 rw[this,e3];simp only[Int.mul_sub,HK,Int.mul_neg,Int.neg_mul];have a1:p * z * a=p * _:=EY ..;have a2:q * (p * k)=p * (q * k):=by rw[<- EY,Fv q p,EY]
 have a3:q * r=r * q:=Fv ..;omega
theorem z4 (hp:JK p=true)(h1:0<r)(h2:r≠1)(h3:r<p):0<Int.fmod p r/\Int.fmod p r<r:=by have:=BG hp (by omega) h3;have a:=Int.fmod_nonneg_of_pos p h1;have b:=Int.fmod_lt_of_pos p h1;omega
open Classical in
noncomputable def bk (p a:Int):Int:=if h:∃ z:Int,0<=z/\z<p/\p ∣ a * z - 1 then Classical.choose h else 0
theorem RV (h0:0<=z)(h1:z<p)(h:p ∣ a * z - 1):bk p a=z:=by
 have hx:∃ z,0<=z/\z<p/\p ∣ a * z - 1:=⟨z,h0,h1,h⟩
 unfold bk;rw[dif_pos hx];obtain⟨y0,y1,y2⟩:=Classical.choose_spec hx;generalize Classical.choose hx=y at *
 have d:p ∣ y - z:=by
  obtain⟨k,hk⟩:=h;obtain⟨j,hj⟩:=y2;refine⟨z * j - y * k,?_⟩;have e1:a * z=p * k+1:=by omega
  have e2:a * y=p * j+1:=by omega
  have e3:y * (a * z)=z * (a * y):=by rw[<- EY,<- EY,Fv y a,Fv z a,EY,EY,Fv y z]
  rw[e1,e2,HK,HK]at e3;rw[Int.mul_sub];have e4:p * (z * j)=z * (p * j):=by rw[<- EY,Fv p z,EY]
  have e5:p * (y * k)=y * (p * k):=by rw[<- EY,Fv p y,EY]
  omega
 have e:=FI.mpr<|FH d;rwa [F9 y0 y1,F9 h0 h1]at e
theorem Qq (h:Inv p a 1 m):p ∣ a * m - 1:=by have:=ER h.eq;rwa [Fv m a]at this
theorem jt (hP:JK p=true)(hp:2<=p):∀ (n:Nat)(r m:Int),r.toNat<=n->0<r->r<p->Inv p a r m->∃ z:Int,0<=z/\z<p/\p ∣ a * z - 1
 | 0,r,m,h,h0,_,_=>by omega
 | n+1,r,m,h,h0,h1,I=>by
  by_cases c:r=1
  ·subst c;exact⟨m,I.lo,I.hi,Qq I⟩
  ·have l:=z4 hP h0 c h1;exact jt hP hp n _ _ (by omega) l.1 (by omega) (yZ I hp h0)
theorem O2 (hP:JK p=true):Mx.Bk p (bk p):=by
 intro a h0 h1;have hp:=((HY p).mp hP).1;have hf:Int.fmod a p=a:=by rw[EH _<|by omega];exact F9 (by omega) h1
 obtain⟨z,z0,z1,z2⟩:=jt hP hp _ a 1 (DV _) h0 h1<|O1 hp hf;rw[RV z0 z1 z2];exact z2
theorem RT (h:Inv p a r m)(hp:2<=p)(hr:0<r):Inv p a (p % r) (m * (0 - p / r) % p):=by have:=yZ h hp hr;rwa [EH _<|by omega,EH _<|by omega,Int.fdiv_eq_ediv_of_nonneg _<|by omega]at this
theorem RU (hp:JK p=true)(h1:0<r)(h2:r≠1)(h3:r<p):0<p % r/\p % r<r:=by have:=z4 hp h1 h2 h3;rwa [EH _<|by omega]at this
theorem Zh (hP:JK p=true)(h0:0<a)(h1:a<p):0<=bk p a/\bk p a<p:=by
 have hp:=((HY p).mp hP).1;have hf:Int.fmod a p=a:=by rw[EH _<|by omega];exact F9 (by omega) h1
 obtain⟨z,z0,z1,z2⟩:=jt hP hp _ a 1 (DV _) h0 h1<|O1 hp hf;rw[RV z0 z1 z2];exact⟨z0,z1⟩
end My
namespace L2
open PySem PySem.Spec PyProof.Rows
inductive D where
 |non|bl (b:Bool)|int (i:Int)|str (x:Str)|lst (l:List D)|scr (l:List D)|tup (l:List D)|dct (k:List Key) (l:List D)|ins (C:Addr) (n:η) (l:List D)
mutual
def DR (F:Hp):D->V->Prop
 | .non,v=>v=.non
 | .bl b,v=>v=.bl b
 | .int i,v=>v=.int i
 | .str x,v=>v=.str x
 | .lst l,v=>∃ a vs,v=.ref a/\F a=some (.lst vs)/\Ij F l vs
 | .scr l,v=>∃ a vs,v=.ref a/\Rd F a (.lst vs)/\Ij F l vs
 | .tup l,v=>∃ a vs,v=.ref a/\F a=some (.tup vs)/\Ij F l vs
 | .dct k l,v=>∃ a ķ,v=.ref a/\Rd F a (.dK ķ)/\ķ.map (·.1)=k/\Ij F l (ķ.map (·.2))
 | .ins C n l,v=>∃ a dx fs,v=.ref a/\F a=some (.ins C dx fs)/\fs.map (·.1)=n/\Ij F l (fs.map (·.2))
def Ij (F:Hp):List D->List V->Prop
 | [],vs=>vs=[]
 | d::l,vs=>∃ v ws,vs=v::ws/\DR F d v/\Ij F l ws
end
theorem Rd.mono (e:f' F F')(h:Rd F a o):Rd F' a o:=h.imp (e a o) λgR=>by obtain⟨r,q⟩:=gR;exact⟨r,e a _ q⟩
mutual
theorem DR.mono {F F':Hp}(e:f' F F'):∀ (d:D)(v:V),DR F d v->DR F' d v
 | .non,_,h=>h
 | .bl _,_,h=>h
 | .int _,_,h=>h
 | .str _,_,h=>h
 | .lst l,_,h=>let ⟨a,vs,q1,q2,q3⟩:=h;⟨a,vs,q1,e _ _ q2,Ij.mono e l vs q3⟩
 | .scr l,_,h=>let ⟨a,vs,q1,q2,q3⟩:=h;⟨a,vs,q1,q2.mono e,Ij.mono e l vs q3⟩
 | .tup l,_,h=>let ⟨a,vs,q1,q2,q3⟩:=h;⟨a,vs,q1,e _ _ q2,Ij.mono e l vs q3⟩
 | .dct _ l,_,h=>let ⟨a,vs,q1,q2,q3,q4⟩:=h;⟨a,vs,q1,q2.mono e,q3,Ij.mono e l _ q4⟩
 | .ins _ _ l,_,h=>let ⟨a,dx,vs,q1,q2,q3,q4⟩:=h;⟨a,dx,vs,q1,e _ _ q2,q3,Ij.mono e l _ q4⟩
theorem Ij.mono {F F':Hp}(e:f' F F'):∀ (l:List D)(vs:List V),Ij F l vs->Ij F' l vs
 | [],_,h=>h
 | d::l,_,h=>let ⟨v,ws,q1,q2,q3⟩:=h;⟨v,ws,q1,DR.mono e d v q2,Ij.mono e l ws q3⟩
end
noncomputable def PV:V->D
 | .bl b=>.bl b
 | .int i=>.int i
 | .str x=>.str x
 | _=>.non
theorem Bq:∀ {v:V},eV v=true->DR F (PV v) v
 | .non,_=>rfl
 | .bl _,_=>rfl
 | .int _,_=>rfl
 | .str _,_=>rfl
abbrev _root_.χ:=List D
theorem Ij.length:∀ {l:χ}{vs:π},Ij F l vs->vs.length=l.length
 | [],_,h=>by rw[show _=[] from h];rfl
 | _::_,_,⟨_,_,q1,_,q3⟩=>by rw[q1,Eu,Eu,Ij.length q3]
theorem Ij.at:∀ {l:χ}{vs:π}{i:Nat}{d:D},Ij F l vs->l[i]?=some d->∃ v,vs[i]?=some v/\DR F d v
 | [],_,_,_,_,e=>nomatch e
 | _::_,_,0,_,⟨v,_,q1,q2,_⟩,e=>⟨v,by rw[q1];rfl,Option.some.inj e▸q2⟩
 | _::_,_,i+1,_,⟨_,_,q1,_,q3⟩,e=>let ⟨v,q,r⟩:=Ij.at (i:=i) q3 e;⟨v,by rw[q1];exact q,r⟩
theorem Ij.at':∀ {l:χ}{vs:π}{i:Nat}{v:V},Ij F l vs->vs[i]?=some v->∃ d,l[i]?=some d/\DR F d v:=λ{l vs i v} h e=>by
 have:=h.length;have hi:i<l.length:=by rw[<- this];exact (DJ.mp e).1
 obtain⟨u,q,r⟩:=h.at (DF hi)
 rw[e]at q;cases q;exact⟨_,DF hi,r⟩
theorem Ij.app:∀ {l m:χ}{vs ws:π},Ij F l vs->Ij F m ws->Ij F (l++m) (vs++ws)
 | [],_,_,_,h,k=>by rw[show _=[] from h];exact k
 | _::_,_,_,_,⟨v,ws,q1,q2,q3⟩,k=>⟨v,_,by rw[q1];rfl,q2,Ij.app q3 k⟩
theorem Ij.one (h:DR F d v):Ij F [d] [v]:=⟨v,[],rfl,h,rfl⟩
noncomputable def grow (F H H':Hp):Hp:=λa=>if H a=none then H' a else F a
theorem ak (l:f' F H):f' F (grow F H H1):=λa o e=>by unfold grow;rw[if_neg (by rw[l a o e];exact nofun)];exact e
theorem aJ (l:f' F H)(e:f' H H1):f' (grow F H H1) H1:=λa o q=>by
 unfold grow at q;by_cases h:H a=none
 ·rwa [if_pos h]at q
 ·rw[if_neg h]at q;exact e _ _ (l _ _ q)
theorem au (e1:f' H H1)(e2:f' H1 H2):grow (grow F H H1) H1 H2=grow F H H2:=by
 funext a;unfold grow;by_cases h:H a=none
 ·rw[if_pos h,if_pos h]
  cases h1:H1 a with
  | none=>rw[if_pos rfl]
  | some o=>rw[if_neg nofun,e2 _ _ h1]
 ·rw[if_neg h,if_neg h,if_neg];intro z
  cases q:H a with
  | none=>exact h q
  | some o=>rw[e1 _ _ q]at z;cases z
theorem aw (h:H a=none):grow F H H1 a=H1 a:=if_pos h
abbrev En:=List (Option D)
abbrev Rx:=En->D->Prop
structure Sd (F:Hp) (σ:St) (H:Hp) (ε:En):Prop where
 le:f' F H
 len:ε.length<=σ.length
 rd:∀ (i:Nat)(d:D),ε[i]?=some (some d)->∃ v,σ[i]?=some (some v)/\DR F d v
theorem Sd.step (S:Sd F σ H ε)(e:f' H H1):Sd (grow F H H1) σ H1 ε:=
 ⟨aJ S.le e,S.len,λi d q=>let ⟨v,a,b⟩:=S.rd i d q;⟨v,a,b.mono<|ak S.le⟩⟩
theorem Sd.set (S:Sd F σ H ε)(h:DR F d v)(i:Nat):Sd F (σ.set i (some v)) H (ε.set i (some d)):=
 ⟨S.le,by simpa using S.len,λj e q=>by
  rw[Ge]at q ⊢;have:=S.len;by_cases c:i=j
  ·rw[if_pos c]at q ⊢;by_cases c2:i<ε.length
   ·rw[if_pos c2]at q;cases q;exact⟨v,by rw[if_pos<|by omega],h⟩
   ·rw[if_neg c2]at q;cases q
  ·rw[if_neg c]at q ⊢;exact S.rd j e q⟩
noncomputable def tP (r:Rx):TE:=λσ H Q=>∃ F ε d,Sd F σ H ε/\r ε d/\∀ x H',f' H H'->DR (grow F H H') d x->Q x H'
abbrev _root_.Á:=En->List D->Prop
noncomputable def KU (r:Á):TA:=λσ H Q=>∃ F ε d,Sd F σ H ε/\r ε d/\∀ x H',f' H H'->Ij (grow F H H') d x->Q x H'
abbrev _root_.Å:=En->Bool->Prop
noncomputable def MY (r:Å):TT:=λσ H Q=>∃ F ε b,Sd F σ H ε/\r ε b/\∀ H',f' H H'->Q b H'
theorem PE.imp (h:PE X e t)(k:∀ σ H Q,t' σ H Q->t σ H Q):PE X e t':=λñ s σ H Q I q=>h _ s σ H Q I (k _ _ _ q)
theorem PT.imp (h:PT X e t)(k:∀ σ H Q,t' σ H Q->t σ H Q):PT X e t':=λñ s σ H Q I q=>h _ s σ H Q I (k _ _ _ q)
theorem PA.imp (h:PA X e t)(k:∀ σ H Q,t' σ H Q->t σ H Q):PA X e t':=λp ñ s σ H Q I q=>h p _ s σ H Q I (k _ _ _ q)
theorem tP.go (S:Sd F σ H ε)(h:r ε d)(k:∀ x H',f' H H'->Sd (grow F H H') σ H' ε->DR (grow F H H') d x->Q x H'):tP r σ H Q:=⟨F,ε,d,S,h,λx H' e q=>k x H' e (S.step e) q⟩
theorem KU.go (S:Sd F σ H ε)(h:r ε d)(k:∀ x H',f' H H'->Sd (grow F H H') σ H' ε->Ij (grow F H H') d x->Q x H'):KU r σ H Q:=⟨F,ε,d,S,h,λx H' e q=>k x H' e (S.step e) q⟩
section
variable {X:Cx}{a b:Expr}{ra rb:Rx}{rs:Á}{pos:Pos}
noncomputable def rV (i:Nat):Rx:=λε d=>ε[i]?=some (some d)
noncomputable def rC (c:D):Rx:=λ_ d=>d=c
theorem tP.at {Q:VK}(l:f' F H)(q:∀ x H',f' H H'->DR (grow F H H') d x->Q x H')(h:DR F d v):Q v H:=q v H (f'.refl _) (h.mono<|ak l)
theorem dv (h:PE X e (sn i)):PE X e (tP (rV i)):=h.imp λσ H Q ⟨F,ε,d,S,r,q⟩=>let ⟨v,h1,h2⟩:=S.rd i d r;⟨v,h1,tP.at S.le q h2⟩
theorem Đ (i:Nat)(hN:autoParam (X.N[i]?=some x) ŕ)(hv:WV X.env.scope x:=by first|exact Or.inl rfl|exact Or.inr (Or.inl rfl)|exact Or.inr (Or.inr rfl))(hd:autoParam (Ė x) ĩ)(Qv:autoParam ((x==("__classdict__":Str))=false) ĩ):PE X (.Name x pos) (tP<|rV i):=dv (pv i hN hv hd Qv)
theorem dC (h:PE X e (tC v))(hf:autoParam (eV v=true) ŕ):PE X e (tP (rC (PV v))):=h.imp λσ H Q gR=>by obtain⟨F,ε,d,S,r,q⟩:=gR;exact tP.at S.le q (r▸Bq hf)
inductive rO (f:D->D->D->Prop) (ra rb:Rx) (ε:En) (d:D):Prop
 |mk {x y:D}:ra ε x->rb ε y->f x y d->rO f ra rb ε d
def P1 (f:D->D->D->Prop)(r:R2):Prop:=∀ (F H:Hp) x y u v d (Q:VK),f' F H->f x y d->DR F x u->DR F y v->(∀ z H',f' H H'->DR (grow F H H') d z->Q z H')->r u v H Q
theorem tP.op (k:P1 f r)(h:tP (rO f ra rb) σ H Q):TB r (tP ra) (tP rb) σ H Q:=by obtain⟨F,ε,d,S,@⟨x,y,hx,hy,hf⟩,q⟩:=h;refine tP.go S hx λu H1 e1 S1 q1=>tP.go S1 hy λv H2 e2 S2 q2=>k _ _ x y u v d Q S2.le hf (q1.mono<|ak S1.le) q2 λz H3 e3 q3=>q z H3 (e1.trans<|e2.trans e3) ?_;rwa [au e1 e2,au (e1.trans e2) e3]at q3
theorem dO (ho:JT X (binaryOp op) r)(k:P1 f r)(ha:PE X a (tP ra))(hb:PE X b (tP rb)):PE X (.BinOp a op b pos) (tP (rO f ra rb)):=(bM ho ha hb).imp λ_ _ _ h=>tP.op k h
theorem dX (ho:Qy X r)(k:P1 f r)(ha:PE X a (tP ra))(hb:PE X b (tP rb))(hs:n8 b:=by exact λ_ _=>rfl):PE X (.Subscript a b pos) (tP (rO f ra rb)):=(U6 ho ha hb hs).imp λ_ _ _ h=>tP.op k h
theorem dM (ho:JT X (compareOp op) r)(k:P1 f r)(ha:PE X a (tP ra))(hb:PE X b (tP rb))(hm:behindInMarks op b=false:=by exact tU _):PE X (.Compare a [op] [b] pos) (tP (rO f ra rb)):=(yx ho ha hb hm).imp λ_ _ _ h=>tP.op k h
theorem dT {op:CmpOp}{f:D->D->D->Prop}{r:R2} (ho:JT X (compareOp op) r) (k:P1 f r) (ha:PE X a (tP ra)) (hb:PE X b (tP rb)) (hm:behindInMarks op b=false:=by exact tU _):PT X (.Compare a [op] [b] pos) (MY λε b=>rO f ra rb ε (.bl b)):=
 (yu ho ha hb hm).imp λσ H Q gR=>by obtain⟨F,ε,c,S,h,q⟩:=gR;exact tP.op k ⟨F,ε,.bl c,S,h,λ_ H' e z=>⟨c,z,q H' e⟩⟩
def Of:Á:=λ_ l=>l=[]
theorem HS:PA X [] (KU Of):=D'.imp λσ H Q gR=>by obtain⟨F,ε,d,S,r,q⟩:=gR;exact q [] H (f'.refl _) (by rw[r];rfl)
inductive rA (ra:Rx) (rs:Á) (ε:En):List D->Prop
 |mk {d:D}{m:χ}:ra ε d->rs ε m->rA ra rs ε (d::m)
theorem da (ha:PE X e (tP ra))(hr:PA X es (KU rs))(hs:autoParam (Ĕ X e es) ŕ):PA X (e::es) (KU (rA ra rs)):=(a9 ha hr hs).imp λσ H Q gR=>by obtain⟨F,ε,l,S,h,q⟩:=gR;obtain⟨h1,h2⟩:=h;refine tP.go S h1 λx H1 e1 S1 q1=>KU.go S1 h2 λxs H2 e2 S2 q2=>q _ H2 (e1.trans e2) ?_;have q3:=q1.mono<|ak (H1:=H2) S1.le;rw[au e1 e2]at q2 q3;exact⟨x,xs,rfl,q3,q2⟩
abbrev _root_.Ä:=List D->D->Prop
noncomputable def Pr (R:Ä):Sp:=λvs H Q _=>∃ F l d,f' F H/\Ij F l vs/\R l d/\∀ x H',f' H H'->DR (grow F H H') d x->Q x H'
inductive rF (R:Ä) (rs:Á) (ε:En) (d:D):Prop
 |mk {l:χ}:rs ε l->R l d->rF R rs ε d
theorem KU.call {dl:χ}(hd:∀ F,Ij F dl dvs)(h:tP (rF (λl=>R (l++dl)) rs) σ H Q):yj (Pr R) dvs E (KU rs) σ H Q:=by
 obtain⟨F,ε,d,S,⟨h1,h2⟩,q⟩:=h;refine KU.go S h1 λxs H1 e1 S1 q1=>⟨_,_,d,S1.le,q1.app<|hd _,h2,λx H2 e2 q2=>q x H2 (e1.trans e2) ?_⟩
 rwa [au e1 e2]at q2
theorem dF (Dd:Df X.prog X.w X.K X.mg X.base k x ps (Pr R))(hr:IA k X.A)(hg:Gl X x)(ha:PA X (e::es) (KU rs))(Mb:autoParam (Ė x) ĩ)(he:autoParam (Ĕ X e es) ŕ)(L':autoParam (Ē X pos es) ŕ):
  PE X (.Call (.Name x p) (e::es) [] pos) (tP (rF R rs)):=(b7 Dd hr hg ha Mb he L').imp λσ H Q gR=>by obtain⟨F,ε,d,S,⟨h1,h2⟩,q⟩:=gR;exact KU.call (dl:=[]) (λ_=>rfl) ⟨F,ε,d,S,⟨h1,by rwa [El]⟩,q⟩
end
structure Qz (F:Hp) (J:It) (l:χ):Prop where
 go:∀ H (i:Nat) d,f' F H->l[i]?=some d->J.go i H/\∀ x H',J.S9 i H x H'->f' H H'/\DR (grow F H H') d x
 stop:∀ H (i:Nat),f' F H->l.length<=i->J.stop i H
theorem Qz.mono (e:f' F F')(h:Qz F J l):Qz F' J l:=
 ⟨λH i d s q=>let ⟨a,b⟩:=h.go H i d (e.trans s) q;⟨a,λx H' y=>let ⟨c,z⟩:=b x H' y;⟨c,z.mono λa o q=>by
  unfold grow at q ⊢;by_cases n:H a=none
  ·rwa [if_pos n]at q ⊢
  ·rw[if_neg n]at q ⊢;exact e _ _ q⟩⟩,λH i s q=>h.stop H i (e.trans s) q⟩
def TgD (g:TG)(r:D->En->En->Prop):Prop:=∀ (F H:Hp) σ ε ε' d x (Q:Υ),Sd F σ H ε->DR F d x->r d ε ε'->(∀ σ',σ'.length=σ.length->Sd F σ' H ε'->Q σ' H)->g x σ H Q
def rN (i:Nat):D->En->En->Prop:=λd ε ε'=>ε'=ε.set i (some d)
theorem Cr (i:Nat):TgD (bU i) (rN i):=λF H σ ε ε' d x Q S h r q=>q _ (by simp) (by rw[r];exact S.set h i)
def ZF:List Nat->List D->En->En->Prop
 | [],l,ε,ε'=>l=[]/\ε'=ε
 | i::is,l,ε,ε'=>∃ d m,l=d::m/\ZF is m (ε.set i (some d)) ε'
noncomputable def WR:List Nat->To
 | []=>VY
 | i::is=>yM (bU i) (WR is)
theorem uG:∀ (is:À)(F H:Hp) σ ε ε' l xs (Q:Υ),Sd F σ H ε->Ij F l xs->ZF is l ε ε'->(∀ σ',σ'.length=σ.length->Sd F σ' H ε'->Q σ' H)->WR is xs σ H Q
 | [],F,H,σ,ε,ε',l,xs,Q,S,h,r,q=>by obtain⟨rfl,rfl⟩:=r;exact⟨h,q σ rfl S⟩
 | i::is,F,H,σ,ε,ε',l,xs,Q,S,h,r,q=>by obtain⟨d,m,rfl,r⟩:=r;obtain⟨v,ws,rfl,h1,h2⟩:=h;exact⟨v,ws,rfl,uG is F H _ _ ε' m ws Q (S.set h1 i) h2 r λσ' e s=>q σ' (by rw[e];simp) s⟩
def Xo (is:À):D->En->En->Prop:=λd ε ε'=>∃ l,d=.tup l/\l.length=is.length/\ZF is l ε ε'
theorem UH (K:Ψ)(is:À):TgD (Aa K is.length (WR is)) (Xo is):=λF H σ ε ε' d x Q S h r q=>by obtain⟨l,rfl,hl,r⟩:=r;obtain⟨a,vs,rfl,ha,hv⟩:=h;exact⟨a,vs,rfl,Kc.of<|S.le _ _ ha,by rw[hv.length,hl],uG is F H σ ε ε' l vs Q S hv r q⟩
theorem Zb (S:Sd F σ H ε)(nT:Nat)(js:À):Sd F (pe nT js σ) H (List.replicate nT none++js.map λj=>(ε[j]?).join):=by
 refine⟨S.le,by simp[pe],λi d q=>?_⟩;unfold pe;by_cases c:i<nT
 ·rw[Em<|by simpa using c,GN,if_pos c]at q
  cases q
 ·rw[Es<|by simpa using c,FV,DN]at q ⊢
  cases hj:js[i - nT]? with
  | none=>rw[hj]at q;cases q
  | some j=>
   rw[hj]at q;have q':(ε[j]?).join=some d:=Option.some.inj q
   cases hε:ε[j]? with
   | none=>rw[hε]at q';cases q'
   | some o=>
    rw[hε]at q';obtain⟨v,a,b⟩:=S.rd j d (by rw[hε];exact congrArg _ q');exact⟨v,by rw[show Option.map _ (some j)=some _ from rfl,a];rfl,b⟩
theorem BZ (os:List (Option D))(hg:TgD g r)(S:Sd F1 σ H1 ε)(hJ:Qz F1 J l)(hl:l.length<=1000)(hcs:cs=js.map λj=>(ε[j]?).join)(ho:os.length=l.length)(ht:∀ p:En,p.length=nT->∀ (i:Nat) d o,l[i]?=some d->os[i]?=some o->∃ p':En,p'.length=nT/\r d (p++cs) (p'++cs)/\∃ b,rt (p'++cs) b/\match o with
   | none=>b=false
   | some v=>b=true/\re (p'++cs) v)(hG:∀ a H' vs,f' H1 H'->H1 a=none->H' a=some (.lst vs)->Ij (grow F1 H1 (bg a H')) (os.filterMap id) vs->G a H'):gC nT js g (MY rt) (tP re) σ G J H1:=by
 intro a ha;refine⟨λi m σ' H'=>m=l.length - i/\i<=l.length/\f' H1 (bg a H')/\(∃ p,p.length=nT/\Sd (grow F1 H1<|bg a H') σ' H' (p++cs))/\∃ vs,H' a=some (.lst vs)/\vs.length<=i/\Ij (grow F1 H1<|bg a H') ((os.take i).filterMap id) vs,⟨l.length,rfl,EE _,?_,⟨List.replicate nT none,by simp,?_⟩,[],ag,DV _,rfl⟩,?_⟩
 ·rw[d3];exact qt (f'.refl _) ha
 ·have S0:=Zb S nT js;rw[<- hcs]at S0;refine⟨λb o q=>?_,S0.len,λi d q=>?_⟩
  ·rw[d3]at q;exact aV (f'.refl _) ha b o (IG _ _<|aJ S.le (qt (f'.refl _) ha) b o q)
  ·obtain⟨v,p1,p2⟩:=S0.rd i d q;exact⟨v,p1,p2.mono<|ak S.le⟩
 ·rintro i m σ' H' ⟨rfl,hi,e1,⟨p,n0,S0⟩,vs,hv,hn,hD⟩;have hFi:f' F1 (grow F1 H1<|bg a H'):=ak S.le;by_cases c:i<l.length
  ·obtain⟨go,yl⟩:=(hJ.mono hFi).go H' i l[i] S0.le<|DF c;refine .inr ⟨go,λx H2 y=>?_⟩;obtain⟨e2,hx⟩:=yl x H2 y;have S2:=S0.step e2;have c':i<os.length:=by omega
   obtain⟨p',t3,t1,b,t4,t5⟩:=ht p n0 i l[i] os[i] (DF c)<|DF c';refine hg _ H2 σ' _ _ l[i] x _ S2 hx t1 λσ3 n3 S3=>?_;have hH2:=e2 _ _ hv;have key:∀ H5,f' H2 H5->grow (grow (grow F1 H1<|bg a H') H' H2) H2 H5=grow F1 H1 (bg a H5)/\f' H1 (bg a H5):=λH5 e5=>by
    constructor
    ·rw[au e2 e5];funext b;unfold grow bg;by_cases q1:H' b=none
     ·rw[if_pos q1];by_cases q2:H1 b=none
      ·rw[if_pos q2,if_neg];intro z;rw[z,hv]at q1;cases q1
      ·cases q3:H1 b with
       | none=>exact absurd q3 q2
       | some o=>
        have:=IG _ _<|e1 b o q3;rw[q1]at this;cases this
     ·rw[if_neg q1];by_cases q2:H1 b=none
      ·by_cases z:b=a
       ·rw[if_pos z,if_pos z]
       ·cases q3:H' b with
        | none=>exact absurd q3 q1
        | some o=>rw[e5 _ _<|e2 _ _ q3]
      ·rw[if_neg q2,if_neg q2]
    ·exact λb o q=>by
      have z:=e1 b o q;unfold bg at z ⊢;by_cases zz:b=a
      ·rw[if_pos zz]at z;cases z
      ·rw[if_neg zz]at z ⊢;exact e5 _ _ (e2 _ _ z)
   have next:∀ H4,f' H2 H4->∃ p,p.length=nT/\Sd _ σ3 H4 (p++cs):=λH4 e4=>⟨p',t3,(key H4 e4).1▸S3.step e4⟩
   have old:∀ H4,f' H2 H4->Ij (grow F1 H1 _) _ vs:=λH4 e4=>by rw[<- (key H4 e4).1];exact (hD.mono<|ak S0.le).mono (ak S2.le)
   have Yd:(os.take<|i+1).filterMap id=(os.take i).filterMap id++os[i].toList:=by
    rw[F8,DF c']
    cases q:os[i] <;> simp
   refine⟨λH4=>f' H2 H4/\os[i]=none,λv H5=>f' H2 H5/\∃ d,os[i]=some d/\DR (grow F1 H1<|bg a H5) d v,λH4 ⟨e4,h4⟩=>⟨l.length - (i+1),by omega,rfl,c,(key H4 e4).2,next H4 e4,vs,e4 _ _ hH2,by omega,?g1⟩,λv H5 ⟨e5,d,h5,q5⟩=>⟨vs,e5 _ _ hH2,HA (Ei hn<|Ei hi hl)<|by decide +kernel,l.length - (i+1),by omega,rfl,c,?g2,?g3,vs++[v],ag,by simp;omega,?g4⟩,_,_,b,S3,t4,λH4 e4=>?g5⟩
   case g1=>rw[Yd,h4];simpa using old H4 e4
   case g2=>rw[d3];exact (key H5 e5).2
   case g3=>
    obtain⟨p5,q2,S5⟩:=next H5 e5
    refine⟨p5,q2,λb o q=>?_,S5.len,λj d q=>?_⟩
    ·rw[d3]at q;by_cases z:b=a
     ·rw[z,aw ha]at q;unfold bg at q;rw[if_pos rfl]at q;cases q
     ·rw[ab z];exact S5.le b o q
    ·rw[d3];exact S5.rd j d q
   case g4=>
    rw[d3,Yd,h5];exact (old H5 e5).app (.one q5)
   case g5=>
    cases hf:os[i] with
    | none=>
     rw[hf]at t5;rw[if_neg (by rw[t5];exact nofun)];exact⟨e4,rfl⟩
    | some d=>
     rw[hf]at t5;rw[if_pos t5.1];exact tP.go (S3.step e4) t5.2 λv H5 e5 S5 q5=>⟨e4.trans e5,d,rfl,by rw[au e4 e5,(key H5<|e4.trans e5).1]at q5;exact q5⟩
  ·exact .inl ⟨(hJ.mono hFi).stop H' i S0.le<|by omega,hG a H' vs (e1.trans IG) ha hv<|by rwa [Ff<|by omega]at hD⟩
theorem k8 (ha:H1 a=none)(hv:H' a=some (.lst vs))(h:Ij (grow F1 H1 (bg a H')) l vs):DR (grow F1 H1 H') (.lst l) (.ref a):=
 ⟨a,vs,rfl,by rw[aw ha];exact hv,h.mono λb o q=>by
  unfold grow at q ⊢;by_cases n:H1 b=none
  ·rw[if_pos n]at q ⊢;exact IG _ _ q
  ·rwa [if_neg n]at q ⊢⟩
abbrev Ri:=En->List D->Prop
noncomputable def tI (ri:Ri):TI:=λσ H R=>∃ F ε l,Sd F σ H ε/\ri ε l/\∀ J H',f' H H'->Qz (grow F H H') J l->R J H'
theorem PI.imp (h:PI X tg e t)(k:∀ σ H R,t' σ H R->t σ H R):PI X tg e t':=λñ s σ H R I q=>h _ s σ H R I (k _ _ _ q)
theorem BD {K:Ψ}(h:Rd F a (.lst vs))(q:Ij F l vs):Qz F (UA K a) l:=
 ⟨λH i d s e=>let ⟨v,e1,e2⟩:=q.at e;⟨⟨vs,v,.inl<|h.mono s,e1⟩,λx H' ⟨z,y⟩=>⟨z▸f'.refl _,by have:=y vs<|.inl (h.mono s);rw[e1]at this;cases this;exact e2.mono<|ak s⟩⟩,λH i s z=>⟨vs,.inl<|h.mono s,by rw[q.length];exact z⟩⟩
noncomputable def si (lo:Int)(n:Nat):χ:=(List.range n).map λ(i:Nat)=>.int (lo+(i:Int))
theorem Uc {lo:Int}:Qz F (Uz lo n) (si lo n):=
 ⟨λH i d s e=>(by
  unfold si at e;rw[DN]at e;by_cases c:i<n
  ·rw[Fh c]at e;cases e;exact⟨c,λx H' gR=>(by obtain⟨z,y⟩:=gR;exact⟨z▸f'.refl _,y⟩)⟩
  ·rw[Ed<|by simpa using c]at e;cases e),λH i s z=>show n<=i by unfold si at z;simpa using z⟩
theorem QN (hg:Gl X "range")(hm:X.mg "range"=none)(ha:PA X [e] (KU rs))(hs:autoParam (starEach [e] X.env=[(false,eval e X.env)]) ŕ):PI X tg (.Call (.Name "range" p) [e] [] pos) (tI λε l=>∃ n:Nat,n<=1000/\rs ε [.int n]/\l=si 0 n):=
 (qx hg hm ha hs).imp λσ H R ⟨F,ε,l,S,⟨n,hn,h,hl⟩,q⟩=>KU.go S h λxs H1 e1 S1 hx=>by
  obtain⟨v,ws,rfl,h1,h2⟩:=hx
  cases h1;cases h2;exact⟨n,rfl,by omega,by omega,q _ H1 e1 (by rw[hl];exact Uc)⟩
theorem iR2 (hg:Gl X "range")(hm:X.mg "range"=none)(ha:PA X [e1,e2] (KU rs))(hs:autoParam (starEach [e1,e2] X.env=[(false,eval e1 X.env),(false,eval e2 X.env)]) ŕ)(OR:autoParam (starEach [e2] X.env=[(false,eval e2 X.env)]) ŕ):
  PI X tg (.Call (.Name "range" p) [e1,e2] [] pos) (tI λε l=>∃ m n:Nat,m<=1000/\n<=1000/\rs ε [.int m,.int n]/\l=si m (n - m)):=
 (qw hg hm ha hs OR).imp λσ H R ⟨F,ε,l,S,⟨m,n,hm,hn,h,hl⟩,q⟩=>KU.go S h λxs H1 e1 S1 hx=>by
  obtain⟨v,ws,rfl,h1,u,ws,rfl,h2,h3⟩:=hx
  cases h1;cases h2;cases h3;exact⟨m,n,rfl,by omega,q _ H1 e1 (by rw[hl,show ((n) - (m:Int)).toNat=n - m by omega];exact Uc)⟩
theorem Bd (s:f' F H)(hT:H T=none)(hx:DR F c x)(hy:DR F d y):f' H (upd H T (.tup [x,y]))/\DR (grow F H (upd H T (.tup [x,y]))) (.tup [c,d]) (.ref T):=
 have g:=ak s
 ⟨aV (f'.refl _) hT,T,_,rfl,by rw[aw hT,ag],x,_,rfl,hx.mono g,.one<|hy.mono g⟩
theorem iZ (hg:Gl X "zip")(hm:X.mg "zip"=none)(ha:PA X [e1,e2] (KU rs))(hs:autoParam (starEach [e1,e2] X.env=[(false,eval e1 X.env),(false,eval e2 X.env)]) ŕ)(OR:autoParam (starEach [e2] X.env=[(false,eval e2 X.env)]) ŕ):
  PI X (.Tuple elts x1 Mo) (.Call (.Name "zip" p) [e1,e2] [] pos) (tI λε l=>∃ m n,rs ε [.lst m,.lst n]/\l=(m.zip n).map λz=>.tup [z.1,z.2]):=
 (B4 hg hm ha hs OR).imp λσ H R ⟨F,ε,l,S,⟨m,n,h,hl⟩,q⟩=>KU.go S h λxs H1 e1 S1 hx=>by
  obtain⟨v,ws,rfl,⟨a,vs,rfl,ha,hv⟩,u,ws,rfl,⟨b,us,rfl,hb,hu⟩,h3⟩:=hx
  cases h3;have qa:=λ{H':Hp} (s:f' (grow F H H1) H')=>Il.of (K:=X.K)<|s _ _ ha;have qb:=λ{H':Hp} (s:f' (grow F H H1) H')=>Il.of (K:=X.K)<|s _ _ hb;refine⟨a,b,rfl,⟨vs,qa S1.le⟩,⟨us,qb S1.le⟩,q _ H1 e1 ⟨λH2 i d s e=>?_,λH2 i s z=>⟨vs,us,qa s,qb s,?_⟩⟩⟩
  ·rw[hl,DN]at e
   cases hz:(m.zip n)[i]? with
   | none=>rw[hz]at e;cases e
   | some z=>
    rw[hz]at e;cases e;obtain⟨z1,z2⟩:=HE.mp hz;obtain⟨x,x1,x2⟩:=hv.at z1;obtain⟨y,y1,y2⟩:=hu.at z2;refine⟨⟨vs,us,x,y,qa s,qb s,x1,y1⟩,λw H3 gR=>?_⟩;obtain⟨T,hT,ew,x',y',q1,q2,e3⟩:=gR;have:=q1 vs<|qa s;rw[x1]at this;cases this;have:=q2 us<|qb s;rw[y1]at this;cases this;subst e3 ew;exact Bd s hT x2 y2
  ·have:=hv.length;have:=hu.length;rw[hl,DH,Fd]at z;omega
theorem iE (hg:Gl X "enumerate")(hm:X.mg "enumerate"=none)(ha:PA X [e] (KU rs))(hs:autoParam (starEach [e] X.env=[(false,eval e X.env)]) ŕ):
  PI X (.Tuple elts x1 Mo) (.Call (.Name "enumerate" p) [e] [] pos) (tI λε l=>∃ m,rs ε [.lst m]/\l=m.zipIdx.map λz=>.tup [.int z.2,z.1]):=
 (t7 X.K hg hm ha rfl hs).imp λσ H R ⟨F,ε,l,S,⟨m,h,hl⟩,q⟩=>KU.go S h λxs H1 e1 S1 hx=>by
  obtain⟨v,ws,rfl,⟨a,vs,rfl,ha,hv⟩,h3⟩:=hx
  cases h3;have qa:=λ{H':Hp} (s:f' (grow F H H1) H')=>Il.of (K:=X.K)<|s _ _ ha;refine⟨a,vs,rfl,S1.le _ _ ha,q _ H1 e1 ⟨λH2 i d s e=>?_,λH2 i s z=>⟨vs,qa s,?_⟩⟩⟩
  ·rw[hl,DN,List.getElem?_zipIdx]at e
   cases hz:m[i]? with
   | none=>rw[hz]at e;cases e
   | some z=>
    rw[hz]at e;cases e;obtain⟨x,x1,x2⟩:=hv.at hz;refine⟨⟨vs,x,qa s,x1⟩,λw H3 gR=>?_⟩;obtain⟨T,hT,ew,x',q1,e3⟩:=gR;have:=q1 vs<|qa s;rw[x1]at this;cases this;subst e3 ew;exact Bd s hT (by simp[DR]) x2
  ·have:=hv.length;rw[hl,DH,List.length_zipIdx]at z;omega
def WW:Nat->D->List D->Prop
 | 0,d,l=>l=[d]
 | n+1,d,l=>d=.tup l/\l.length=n+1
inductive Tn (n:Nat) (cs:En) (rt:Å) (re:Rx) (x:D):Option D->Prop
 |no {xs:χ}:WW n x xs->rt (xs.map some++cs) false->Tn n cs rt re x none
 |yes {xs:χ}{v:D}:WW n x xs->rt (xs.map some++cs) true->re (xs.map some++cs) v->Tn n cs rt re x (some v)
inductive rL (n:Nat) (js:À) (ri:Ri) (rt:Å) (re:Rx) (ε:En) (d:D):Prop
 |mk {l:χ}{os:List (Option D)}:ri ε l->l.length<=1000->Paired (Tn n (js.map λj=>(ε[j]?).join) rt re) l os->d=.lst (os.filterMap id)->rL n js ri rt re ε d
theorem qu:∀ (n:Nat)(k:Nat)(l:χ)(q p cs:En),l.length=n->q.length=k->p.length=n->ZF (List.range' k n) l (q++(p++cs)) (q++(l.map some++cs))
 | 0,k,l,q,p,cs,hl,hq,hp=>by cases Hl hl;cases Hl hp;exact⟨rfl,rfl⟩
 | n+1,k,l,q,p,cs,hl,hq,hp=>by
  match l,p,hl,hp with
  | d::m,o::p,hl,hp=>
   refine⟨d,m,rfl,?_⟩;have:=qu n (k+1) m (q++[some d]) p cs (by simpa using hl) (by simp[hq]) (by simpa using hp);rw[show (q++(o::p++cs)).set k (some d)=q++[some d]++(p++cs) by rw[<- hq,List.set_append_right _ _<|DV _];simp];simpa using this
noncomputable def oR (K:Ψ):Nat->TG
 | 0=>bU 0
 | n+1=>Aa K (n+1) (WR (List.range' 0 (n+1)))
def Xp:Nat->D->En->En->Prop
 | 0=>rN 0
 | n+1=>Xo (List.range' 0 (n+1))
theorem UI (K:Ψ):∀ n,TgD (oR K n) (Xp n)
 | 0=>Cr 0
 | n+1=>by have:=UH K<|List.range' 0 (n+1);rwa [List.length_range']at this
noncomputable def mG:Nat->Nat
 | 0=>1
 | n+1=>n+1
theorem yq:∀ {n:Nat}{d:D}{l:χ}{p cs:En},WW n d l->p.length=mG n->Xp n d (p++cs) (l.map some++cs)/\(l.map some).length=mG n
 | 0,d,l,p,cs,h,hp=>by
  match p,hp with
  | [o],_=>rw[h];exact⟨rfl,rfl⟩
 | n+1,d,l,p,cs,⟨h1,h2⟩,hp=>⟨⟨l,h1,by rw[h2,List.length_range'],qu _ 0 l [] p cs h2 rfl hp⟩,by rw[DH];exact h2⟩
section
variable {K:Ψ}
theorem qv {os:List (Option D)}(S:Sd F σ H ε)(hJ:Qz F J l)(hl:l.length<=1000)(ht:Paired (Tn n (js.map λj=>(ε[j]?).join) rt re) l os)(hG:∀ a H' vs,f' H H'->H a=none->H' a=some (.lst vs)->Ij (grow F H (bg a H')) (os.filterMap id) vs->G a H'):gC (mG n) js (oR K n) (MY rt) (tP re) σ G J H:=
 BZ os (UI K n) S hJ hl rfl (Paired.length ht).symm (λp hp i d o h1 h2=>by
  obtain⟨o',h3,h4⟩:=Paired.at ht h1;rw[h2]at h3;cases h3
  cases h4 with
  | no h4 h5=>
   obtain⟨g1,g2⟩:=yq h4 hp;exact⟨_,g2,g1,_,h5,rfl⟩
  | yes h4 h5 h6=>
   obtain⟨g1,g2⟩:=yq h4 hp;exact⟨_,g2,g1,_,h5,rfl,h6⟩) hG
theorem nU (h:tP (rL n js ri rt re) σ H Q):jN (tI ri) (mG n) js (oR K n) (MY rt) (tP re) σ H Q:=
 let ⟨F,ε,d,S,.mk (l:=l) h1 h2 h3 h4,q⟩:=h
 ⟨F,ε,l,S,h1,λJ H1 e1 hJ=>qv (S.step e1) hJ h2 h3 λa H2 vs e2 ha hv hd=>q _ H2 (e1.trans e2) (by have:=k8 ha hv hd;rw[au e1 e2]at this;rw[h4];exact this)⟩
theorem dL (n:Nat)(hc:X.calm=true)(S:bv X scope (mG n) js N')(hi:PI X tg iter (tI ri))(hg:∀ cells C s H fp,PG (aB X scope N' cells C s H fp) tg (oR X.K n))(ht:∀ cells C s H fp,Me (aB X scope N' cells C s H fp) ifs (MY rt))(he:∀ cells C s H fp,PE (aB X scope N' cells C s H fp) elt (tP re))(hs:autoParam (ĕ X iter) ŏ):PE X (.ListComp elt [⟨tg,iter,ifs,0⟩] scope pos) (tP (rL n js ri rt re)):=(eO hc S hi hg ht he hs).imp λ_ _ _=>nU
theorem Me.imp (h:Me X ifs t)(k:∀ σ H Q,t' σ H Q->t σ H Q):Me X ifs t':=λñ s σ H Q I q=>h _ s σ H Q I (k _ _ _ q)
def AU:Å:=λ_ b=>b=true
theorem Lp:Me X [] (MY AU):=LG.imp λσ H Q gR=>by obtain⟨F,ε,b,S,h,q⟩:=gR;subst h;exact q H (f'.refl _)
end
section
variable {α:Type}
theorem jm:∀ {xs:List α},(∀ x∈xs,P (f x) (g x))->Paired P (xs.map f) (xs.map g)
 | [],_=>.nil
 | x::xs,h=>.cons (h x E7) (jm λy hy=>h y<|E6 _ hy)
theorem aR {xs:List α}{u h:α->D}(hi:ri ε (xs.map u))(hl:xs.length<=1000)(k:∀ x∈xs,∃ l,WW n (u x) l/\re (l.map some++js.map λj=>(ε[j]?).join) (h x)):rL n js ri AU re ε (.lst (xs.map h)):=
 .mk hi (by simpa using hl) (jm λx hx=>let ⟨l,a,b⟩:=k x hx;.yes a rfl b) (by simp)
theorem bh {xs:List α}{u h:α->D}(c:α->Bool)(hi:ri ε (xs.map u))(hl:xs.length<=1000)(k:∀ x∈xs,∃ l,WW n (u x) l/\rt (l.map some++js.map λj=>(ε[j]?).join) (c x)/\(c x=true->re (l.map some++js.map λj=>(ε[j]?).join) (h x))):rL n js ri rt re ε (.lst ((xs.filter c).map h)):=
 .mk (os:=xs.map λx=>if c x=true then some _ else none) hi (by simpa using hl) (jm λx hx=>by
  obtain⟨l,a,b,d⟩:=k x hx;by_cases z:c x=true
  ·rw[if_pos z];exact .yes a (z▸b) (d z)
  ·rw[if_neg z];exact .no a<|Bool.eq_false_iff.mpr z▸b) (by
  congr 1;rw[List.filterMap_map];clear hi hl k
  induction xs with
  | nil=>rfl
  | cons x xs ih=>
   rw[EZ,Hu];by_cases z:c x=true
   ·simp only[Function.comp_apply,if_pos z,id];rw[DX,ih]
   ·simp only[Function.comp_apply,if_neg z];exact ih)
end
inductive Sl where
 |un|fz (d:D)|ow (d:D)
abbrev Ev:=List Sl
noncomputable def Sl.z:Sl->Option D
 | .fz d=>some d
 | _=>none
noncomputable def Sl.a:Sl->Option D
 | .un=>none
 | .fz d=>some d
 | .ow d=>some d
def Q8 (F H:Hp):D->Addr->Prop
 | .lst l,a=>∃ vs,H a=some (.lst vs)/\Ij F l vs
 | .dct k l,a=>∃ ķ,H a=some (.dK ķ)/\ķ.map (·.1)=k/\Ij F l (ķ.map (·.2))
 | _,_=>False
theorem Q8.some:∀ {d:D}{a:Addr},Q8 F H d a->H a≠none
 | .lst _,_,⟨_,h,_⟩,z=>by rw[h]at z;cases z
 | .dct _ _,_,⟨_,h,_⟩,z=>by rw[h]at z;cases z
theorem Q8.mono (e:f' F F'):∀ {d:D}{a:Addr},(∀ o,H a=Option.some o->H' a=Option.some o)->Q8 F H d a->Q8 F' H' d a
 | .lst _,_,s,⟨vs,h,q⟩=>⟨vs,s _ h,q.mono e⟩
 | .dct _ _,_,s,⟨vs,h,k,q⟩=>⟨vs,s _ h,k,q.mono e⟩
theorem Q8.dr (e:f' F G):∀ {d:D}{a:Addr},(∀ o,H a=Option.some o->G a=Option.some o)->Q8 F H d a->DR G d (.ref a)
 | .lst _,a,s,⟨vs,h,q⟩=>⟨a,vs,rfl,s _ h,q.mono e⟩
 | .dct _ _,a,s,⟨vs,h,k,q⟩=>⟨a,vs,rfl,.inl<|s _ h,k,q.mono e⟩
structure Ss (F0 H0 F:Hp) (σ:St) (H:Hp) (ε:Ev):Prop where
 b0:f' H0 H
 f0:f' F0 H0
 up:f' F0 F
 lo:f' F (grow F0 H0 H)
 len:ε.length<=σ.length
 rz:∀ (i:Nat) d,ε[i]?=some (.fz d)->∃ v,σ[i]?=some (some v)/\DR F d v
 ro:∀ (i:Nat) d,ε[i]?=some (.ow d)->∃ a,σ[i]?=some (some (.ref a))/\F a=none/\H0 a=none/\Q8 F H d a
 ap:∀ (i j:Nat) c d a,i≠j->ε[i]?=some (.ow c)->ε[j]?=some (.ow d)->σ[i]?=some (some (.ref a))->σ[j]?≠some (some (.ref a))
section
variable {F0 H0 F F' H H1:Hp}{σ:St}{ε:Ev}
theorem Ss.le (S:Ss F0 H0 F σ H ε):f' F H:=λa o q=>aJ S.f0 S.b0 a o (S.lo a o q)
theorem aQ (s:f' H H1):f' (grow F0 H0 H) (grow F0 H0 H1):=λa o q=>by
 unfold grow at q ⊢;by_cases n:H0 a=none
 ·rw[if_pos n]at q ⊢;exact s _ _ q
 ·rwa [if_neg n]at q ⊢
theorem Ss.step (S:Ss F0 H0 F σ H ε)(e:f' H H1)(u:f' F F')(l:f' F' (grow F0 H0 H1))(n:∀ a,F a=none->H a≠none->F' a=none):Ss F0 H0 F' σ H1 ε where
 b0:=S.b0.trans e
 f0:=S.f0
 up:=S.up.trans u
 lo:=l
 len:=S.len
 rz:=λi d q=>let ⟨v,a,b⟩:=S.rz i d q;⟨v,a,b.mono u⟩
 ro:=λi d q=>let ⟨a,p1,p2,p3,p4⟩:=S.ro i d q;⟨a,p1,n a p2 p4.some,p3,p4.mono u<|e a⟩
 ap:=S.ap
theorem Ss.JM (S:Ss F0 H0 F σ H ε)(e:f' H H1):Ss F0 H0 F σ H1 ε:=S.step e (f'.refl _) (S.lo.trans<|aQ e) λ_ h _=>h
theorem Ss.grow (S:Ss F0 H0 F σ H ε)(e:f' H H1):Ss F0 H0 (grow F H H1) σ H1 ε:=S.step e (ak S.le) (λa o q=>by
 unfold L2.grow at q;by_cases n:H a=none
 ·rw[if_pos n]at q;rw[aw (by cases z:H0 a with
   | none=>rfl
   | some u=>rw[S.b0 _ _ z]at n;cases n)]
  exact q
 ·rw[if_neg n]at q;exact aQ e _ _<|S.lo _ _ q) λa h k=>by unfold L2.grow;rw[if_neg k];exact h
theorem Ss.z (S:Ss F0 H0 F σ H ε):Sd F σ H (ε.map Sl.z):=⟨S.le,by simpa using S.len,λi d q=>by
 rw[DN]at q
 cases h:ε[i]? with
 | none=>rw[h]at q;cases q
 | some s=>
  rw[h]at q
  cases s with
  | fz c=>cases q;exact S.rz i _ h
  | _=>cases q⟩
theorem Ss.a (S:Ss F0 H0 F σ H ε):Sd (L2.grow F0 H0 H) σ H (ε.map Sl.a):=⟨aJ S.f0 S.b0,by simpa using S.len,λi d q=>by
 rw[DN]at q
 cases h:ε[i]? with
 | none=>rw[h]at q;cases q
 | some s=>
  rw[h]at q
  cases s with
  | un=>cases q
  | fz c=>cases q;obtain⟨v,a,b⟩:=S.rz i _ h;exact⟨v,a,b.mono S.lo⟩
  | ow c=>cases q;obtain⟨a,p1,p2,p3,p4⟩:=S.ro i _ h;exact⟨_,p1,p4.dr S.lo λo z=>by rw[aw p3];exact z⟩⟩
theorem Ss.PN (S:Ss F0 H0 F σ H ε)(h:DR F d v)(i:Nat):Ss F0 H0 F (σ.set i (some v)) H (ε.set i (.fz d)):=by
 have len:=S.len;have old:∀ {j:Nat}{s:Sl},(ε.set i<|.fz d)[j]?=some s->(i=j/\s=.fz d/\_[j]?=some _)\/(i≠j/\ε[j]?=some s/\(σ.set i<|some v)[j]?=σ[j]?):=λ{j s} q=>by
  rw[Ge]at q;rw[Ge];by_cases c:i=j
  ·rw[if_pos c]at q;by_cases c2:i<ε.length
   ·rw[if_pos c2]at q;cases q;exact .inl ⟨c,rfl,by rw[if_pos c,if_pos<|by omega]⟩
   ·rw[if_neg c2]at q;cases q
  ·rw[if_neg c]at q;exact .inr ⟨c,q,by rw[if_neg c]⟩
 refine⟨S.b0,S.f0,S.up,S.lo,by simpa using len,λj c q=>?_,λj c q=>?_,λj k c e a n q1 q2 z1 z2=>?_⟩
 ·rcases old q with⟨_,q2,q3⟩|⟨_,q2,q3⟩
  ·cases q2;exact⟨v,q3,h⟩
  ·rw[q3];exact S.rz j c q2
 ·rcases old q with⟨_,q2,_⟩|⟨_,q2,q3⟩
  ·cases q2
  ·rw[q3];exact S.ro j c q2
 ·rcases old q1 with⟨_,y,_⟩|⟨_,y1,y2⟩
  ·cases y
  ·rcases old q2 with⟨_,y,_⟩|⟨_,y3,y4⟩
   ·cases y
   ·rw[y2]at z1;rw[y4]at z2;exact S.ap j k c e a n y1 y3 z1 z2
theorem Ss.frz (S:Ss F0 H0 F σ H ε)(h:ε[i]?=some (.ow d)):∃ F',f' F F'/\Ss F0 H0 F' σ H (ε.set i (.fz d)):=by
 obtain⟨a,p1,p2,p3,p4⟩:=S.ro i d h;have hi:=(DJ.mp h).1;let F':=λb=>if b=a then H a else F b
 have u:f' F F':=λb o q=>by show (if b=a then H a else F b)=_;rw[if_neg (λz=>by rw[z,p2]at q;cases q)];exact q
 have old:∀ {j:Nat}{s:Sl},(ε.set i<|.fz d)[j]?=some s->(i=j/\s=.fz d)\/(i≠j/\ε[j]?=some s):=λ{j s} q=>by
  rw[Ge]at q;by_cases c:i=j
  ·rw[if_pos c,if_pos hi]at q;cases q;exact .inl ⟨c,rfl⟩
  ·rw[if_neg c]at q;exact .inr ⟨c,q⟩
 refine⟨F',u,S.b0,S.f0,S.up.trans u,λb o q=>?_,by simpa using S.len,λj c q=>?_,λj c q=>?_,λj k c e b n q1 q2 z1 z2=>?_⟩
 ·by_cases z:b=a
  ·rw[show F' b=H a from if_pos z]at q;rw[z,aw p3];exact q
  ·rw[show F' b=F b from if_neg z]at q;exact S.lo _ _ q
 ·rcases old q with⟨y1,y⟩|⟨_,y⟩
  ·cases y;subst y1;exact⟨_,p1,p4.dr u λo z=>(if_pos rfl).trans z⟩
  ·obtain⟨v,x1,x2⟩:=S.rz j c y;exact⟨v,x1,x2.mono u⟩
 ·rcases old q with⟨_,y⟩|⟨y1,y⟩
  ·cases y
  ·obtain⟨b,x1,x2,x3,x4⟩:=S.ro j c y;exact⟨b,x1,(if_neg λz:b=a=>S.ap i j d c a y1 h y p1<|z▸x1).trans x2,x3,x4.mono u λ_ z=>z⟩
 ·rcases old q1 with⟨_,y⟩|⟨_,y1⟩
  ·cases y
  ·rcases old q2 with⟨_,y⟩|⟨_,y2⟩
   ·cases y
   ·exact S.ap j k c e b n y1 y2 z1 z2
theorem Ss.a05 {a:Addr}(S:Ss F0 H0 F σ H ε)(i:Nat)(ha:H a=none)(e:f' H H1)(h:Q8 (bg a (L2.grow F H H1)) H1 d a):∃ F',f' F F'/\Ss F0 H0 F' (σ.set i (some (.ref a))) H1 (ε.set i (.ow d)):=by
 have S1:=S.grow e;have len:=S.len;have u:f' F (bg a<|L2.grow F H H1):=λb o q=>by rw[bN (λz=>by rw[z]at q;rw[S.le _ _ q]at ha;cases ha)];exact ak S.le _ _ q
 have YH:H0 a=none:=by cases z:H0 a with
  | none=>rfl
  | some o=>rw[S.b0 _ _ z]at ha;cases ha
 have S2:=S.step e u (IG.trans S1.lo) λb p q=>by
  unfold bg L2.grow;by_cases z:b=a
  ·rw[if_pos z]
  ·rw[if_neg z,if_neg q];exact p
 have old:∀ {j:Nat}{s:Sl},(ε.set i<|.ow d)[j]?=some s->(i=j/\s=.ow d/\(σ.set i _)[j]?=some (some<|.ref a))\/(i≠j/\ε[j]?=some s/\_[j]?=σ[j]?):=λ{j s} q=>by
  rw[Ge]at q;rw[Ge];by_cases c:i=j
  ·rw[if_pos c]at q;by_cases c2:i<ε.length
   ·rw[if_pos c2]at q;cases q;exact .inl ⟨c,rfl,by rw[if_pos c,if_pos<|by omega]⟩
   ·rw[if_neg c2]at q;cases q
  ·rw[if_neg c]at q;exact .inr ⟨c,q,by rw[if_neg c]⟩
 have far:∀ {j:Nat}{c:D},ε[j]?=some _->σ[j]?≠some (some<|.ref a):=λ{j c} q z=>by obtain⟨b,x1,_,_,x4⟩:=S.ro j c q;rw[x1]at z;cases z;exact x4.some ha
 refine⟨_,u,S2.b0,S2.f0,S2.up,S2.lo,by simpa using len,λj c q=>?_,λj c q=>?_,λj k c e b n q1 q2 z1 z2=>?_⟩
 ·rcases old q with⟨_,y,_⟩|⟨_,y,y3⟩
  ·cases y
  ·rw[y3];exact S2.rz j c y
 ·rcases old q with⟨_,y,y3⟩|⟨_,y,y3⟩
  ·cases y;exact⟨a,y3,if_pos rfl,YH,h⟩
  ·rw[y3];exact S2.ro j c y
 ·rcases old q1 with⟨y1,y2,y3⟩|⟨y1,y2,y3⟩
  ·rcases old q2 with⟨w1,_,_⟩|⟨_,w2,w3⟩
   ·exact n (y1.symm.trans w1)
   ·rw[y3]at z1;cases z1;rw[w3]at z2;exact far w2 z2
  ·rcases old q2 with⟨_,_,w3⟩|⟨_,w2,w3⟩
   ·rw[w3]at z2;cases z2;rw[y3]at z1;exact far y2 z1
   ·rw[y3]at z1;rw[w3]at z2;exact S.ap j k c e b n y2 w2 z1 z2
theorem Ss.chg {a:Addr}(S:Ss F0 H0 F σ H ε)(h:ε[i]?=some (.ow c))(ha:σ[i]?=some (some (.ref a)))(hn:Q8 F (upd H a o) d a):Ss F0 H0 F σ (upd H a o) (ε.set i (.ow d)):=by
 obtain⟨b,p1,p2,p3,p4⟩:=S.ro i c h;rw[ha]at p1;cases p1;have hi:=(DJ.mp h).1;have old:∀ {j:Nat}{s:Sl},(ε.set i<|.ow d)[j]?=some s->(i=j/\s=.ow d)\/(i≠j/\ε[j]?=some s):=λ{j s} q=>by
  rw[Ge]at q;by_cases c:i=j
  ·rw[if_pos c,if_pos hi]at q;cases q;exact .inl ⟨c,rfl⟩
  ·rw[if_neg c]at q;exact .inr ⟨c,q⟩
 refine⟨λb o q=>?_,S.f0,S.up,λb o q=>?_,by simpa using S.len,λj c q=>?_,λj c' q=>?_,λj k c' e b n q1 q2 z1 z2=>?_⟩
 ·rw[ab (λz=>by rw[z,p3]at q;cases q)];exact S.b0 _ _ q
 ·have q':=S.lo _ _ q;unfold L2.grow at q' ⊢;rw[ab (λz=>by rw[z,p2]at q;cases q)];exact q'
 ·rcases old q with⟨_,y⟩|⟨_,y⟩
  ·cases y
  ·exact S.rz j c y
 ·rcases old q with⟨y1,y⟩|⟨y1,y⟩
  ·cases y;subst y1;exact⟨a,ha,p2,p3,hn⟩
  ·obtain⟨b,x1,x2,x3,x4⟩:=S.ro j c' y;exact⟨b,x1,x2,x3,x4.mono (f'.refl _) λo z=>by rw[ab (λzz:b=a=>S.ap i j c c' a y1 h y ha<|zz▸x1)];exact z⟩
 ·rcases old q1 with⟨y1,y⟩|⟨y1,y⟩
  ·cases y;rcases old q2 with⟨w1,_⟩|⟨_,w⟩
   ·exact n (y1.symm.trans w1)
   ·subst y1;exact S.ap i k c e b n h w z1 z2
  ·rcases old q2 with⟨w1,w⟩|⟨_,w⟩
   ·cases w;subst w1;exact S.ap j i c' c b n y h z1 z2
   ·exact S.ap j k c' e b n y w z1 z2
end
inductive Fl where
 |nx (ε:Ev)|rt (d:D)
abbrev Rs:=Ev->Fl->Prop
def Tt (F0 H0 F:Hp)(E:d8):Fl->Prop
 | .nx ε=>∀ σ H F',f' F F'->Ss F0 H0 F' σ H ε->E.nx σ H
 | .rt d=>∀ x H,f' H0 H->f' F H->DR (grow F0 H0 H) d x->E.rt x H
theorem Tt.up (e:f' F F'):∀ {f:Fl},Tt F0 H0 F E f->Tt F0 H0 F' E f
 | .nx _,h=>λσ H F2 u S=>h σ H F2 (e.trans u) S
 | .rt _,h=>λx H a b=>h x H a (e.trans b)
noncomputable def tQ (F0 H0:Hp)(r:Rs):TS:=λE σ H=>∃ F ε f,Ss F0 H0 F σ H ε/\r ε f/\Tt F0 H0 F E f
def QS (X:Cx)(st:Stmt)(r:Rs):Prop:=∀ F0 H0,PS X st (tQ F0 H0 r)
def PF (X:Cx)(st:List Stmt)(r:Rs):Prop:=∀ F0 H0,N6 X st (tQ F0 H0 r)
theorem PS.imp (h:PS X e t)(k:∀ E σ H,t' E σ H->t E σ H):PS X e t':=λñ s σ H D I q=>h _ s σ H D I (k _ _ _ q)
theorem N6.imp (h:N6 X e t)(k:∀ E σ H,t' E σ H->t E σ H):N6 X e t':=λñ s σ H D I q=>h _ s σ H D I (k _ _ _ q)
section
variable {st:Stmt}{r r2:Rs}{re:Rx}{rt:Å}
theorem q0:PF X [] λε f=>f=.nx ε:=λF0 H0=>Jb.imp λE σ H gR=>by obtain⟨F,ε,f,S,h,p⟩:=gR;subst h;exact p σ H F (f'.refl _) S
inductive nS (r r2:Rs) (ε:Ev):Fl->Prop
 |nx {ε1:Ev}{f:Fl}:r ε (.nx ε1)->r2 ε1 f->nS r r2 ε f
 |rt {d:D}:r ε (.rt d)->nS r r2 ε (.rt d)
theorem qC (h:QS X st r)(k:PF X ss r2):PF X (st::ss) (nS r r2):=λF0 H0=>(aj (h F0 H0)<|k F0 H0).imp λE σ H gR=>by
 obtain⟨F,ε,f,S,h,p⟩:=gR
 cases h with
 | nx h1 h2=>exact⟨F,ε,_,S,h1,λσ' H' F' u S'=>⟨F',_,f,S',h2,p.up u⟩⟩
 | rt h1=>exact⟨F,ε,_,S,h1,p⟩
theorem q1 (h:QS X st r):PF X [st] r:=λF0 H0=>ar (h F0 H0)
theorem qN:QS X st λ_ _=>False:=λF0 H0=>JN.imp λE σ H gR=>by obtain⟨F,ε,f,S,h,p⟩:=gR;exact h.elim
theorem qZ (i:Nat)(h:PF X ss r):PF X ss λε f=>∃ d,ε[i]?=some (.ow d)/\r (ε.set i (.fz d)) f:=λF0 H0=>(h F0 H0).imp λE σ H gR=>by obtain⟨F,ε,f,S,⟨d,h1,h2⟩,p⟩:=gR;obtain⟨F',u,S'⟩:=S.frz h1;exact⟨F',_,f,S',h2,p.up u⟩
inductive CD (i:Nat) (re:Rx) (ε:Ev):Fl->Prop
 |mk {d:D}:re (ε.map Sl.z) d->CD i re ε (.nx (ε.set i (.fz d)))
theorem qS (h:PS X st (lY te (bU i)))(k:∀ σ H Q,tP re σ H Q->te σ H Q):QS X st (CD i re):=λF0 H0=>h.imp λE σ H gR=>by obtain⟨F,ε,f,S,h,p⟩:=gR;obtain⟨h1⟩:=h;exact k _ _ _ (tP.go S.z h1 λx H1 e1 _ q1=>p _ H1 _ (ak S.le)<|(S.grow e1).PN q1 i)
noncomputable def mJ:D->Bool
 | .non|.bl _|.int _|.str _=>true
 | _=>false
theorem Dl:∀ {d:D}{v:V},mJ d=true->DR F d v->DR G d v
 | .non,_,_,h=>h
 | .bl _,_,_,h=>h
 | .int _,_,_,h=>h
 | .str _,_,_,h=>h
inductive Xr (i:Nat) (re:Rx) (ε:Ev):Fl->Prop
 |mk {d:D}:re (ε.map Sl.a) d->mJ d=true->Xr i re ε (.nx (ε.set i (.fz d)))
noncomputable def tN (re:Rx):TE:=λσ H Q=>∃ F ε d,Sd F σ H ε/\re ε d/\∀ a H',f' H H'->H a=none->Q8 (bg a (grow F H H')) H' d a->Q (.ref a) H'
theorem tN.p (h:tP re σ H Q):tN re σ H Q:=let ⟨F,ε,d,S,h1,q⟩:=h;⟨F,ε,d,S,h1,λa H' e n w=>q _ H' e (w.dr IG λo z=>by rw[aw n];exact z)⟩
inductive TU (i:Nat) (re:Rx) (ε:Ev):Fl->Prop
 |mk {d:D}:re (ε.map Sl.z) d->TU i re ε (.nx (ε.set i (.ow d)))
theorem qO (h:PS X st (lY te (bU i)))(k:∀ σ H Q,tN re σ H Q->te σ H Q):QS X st (TU i re):=λF0 H0=>h.imp λE σ H gR=>by obtain⟨F,ε,f,S,h,p⟩:=gR;obtain @⟨d,h1⟩:=h;refine k _ _ _ ⟨F,_,d,S.z,h1,λa H1 e1 n w=>?_⟩;obtain⟨F',u,S'⟩:=S.a05 i n e1 w;exact p _ H1 F' u S'
inductive Xs (re:Rx) (ε:Ev) (f:Fl):Prop
 |mk {d:D}:re (ε.map Sl.a) d->f=.rt d->Xs re ε f
theorem qR (h:PE X e (tP re)):QS X (.Return (some e) pos) (Xs re):=λF0 H0=>(bJ h).imp λE σ H gR=>by obtain⟨F,ε,f,S,⟨h1,h2⟩,p⟩:=gR;subst h2;exact tP.go S.a h1 λx H1 e1 _ q1=>p x H1 (S.b0.trans e1) (S.le.trans e1) (by rw[au S.b0 e1]at q1;exact q1)
inductive ZI (rt:Å) (rx ry:Rs) (ε:Ev) (f:Fl):Prop
 |t:rt (ε.map Sl.a) true->rx ε f->ZI rt rx ry ε f
 |f:rt (ε.map Sl.a) false->ry ε f->ZI rt rx ry ε f
theorem qI (h:PT X c (MY rt))(ha:PF X a rx)(hb:PF X b ry):QS X (.If c a b pos) (ZI rt rx ry):=λF0 H0=>(io h (ha F0 H0)<|hb F0 H0).imp λE σ H gR=>by
 obtain⟨F,ε,f,S,h,p⟩:=gR
 cases h with
 | t h1 h2=>exact⟨_,_,true,S.a,h1,λH1 e1=>⟨F,ε,f,S.JM e1,h2,p⟩⟩
 | f h1 h2=>exact⟨_,_,false,S.a,h1,λH1 e1=>⟨F,ε,f,S.JM e1,h2,p⟩⟩
inductive Wh (rt:Å) (rb:Rs):Nat->Ev->Fl->Prop
 |done {n:Nat}{ε:Ev}:rt (ε.map Sl.a) false->Wh rt rb n ε (.nx ε)
 |next {n:Nat}{ε ε2:Ev}{f:Fl}:rt (ε.map Sl.a) true->rb ε (.nx ε2)->Wh rt rb n ε2 f->Wh rt rb (n+1) ε f
 |ret {n:Nat}{ε:Ev}{d:D}:rt (ε.map Sl.a) true->rb ε (.rt d)->Wh rt rb n ε (.rt d)
noncomputable def rWh (rt:Å)(rb:Rs):Rs:=λε f=>∃ n,Wh rt rb n ε f
theorem qW (hp:PassesOwn X.Ę X.A X.env X.xe)(hc:PT X c (MY rt))(hb:PF X ss rb):QS X (.While c ss [] pos) (rWh rt rb):=λF0 H0=>(B0 hp hc<|hb F0 H0).imp λE σ H gR=>by
 obtain⟨F,ε,f,S,⟨n,h⟩,p⟩:=gR;refine⟨λm σ H=>∃ F' ε',f' F F'/\Ss F0 H0 F' σ H ε'/\Wh rt rb m ε' f,⟨n,F,ε,f'.refl _,S,h⟩,λm σ H ⟨F',ε',u,S',w⟩=>?_⟩
 cases w with
 | done t=>exact⟨_,_,false,S'.a,t,λH1 e1=>p σ H1 F' u<|S'.JM e1⟩
 | next t b w=>exact⟨_,_,true,S'.a,t,λH1 e1=>⟨λσ' H'=>∃ F2,f' F F2/\Ss F0 H0 F2 σ' H' _,λσ2 H2 gR=>(by obtain⟨F2,u2,S2⟩:=gR;exact⟨_,EX _,F2,_,u2,S2,w⟩),F',ε',_,S'.JM e1,b,λσ2 H2 F2 u2 S2=>⟨F2,u.trans u2,S2⟩⟩⟩
 | ret t b=>exact⟨_,_,true,S'.a,t,λH1 e1=>⟨λ_ _=>False,λ_ _ z=>z.elim,F',ε',_,S'.JM e1,b,p.up u⟩⟩
abbrev _root_.Ù:=Ev->Prop
abbrev _root_.Ô:=D->Ev->Ù
def Ux (g:TG)(q:Ô):Prop:=∀ (F0 H0 F H:Hp) σ ε ε' d x (Q:Υ),Ss F0 H0 F σ H ε->DR F d x->q d ε ε'->(∀ σ',Ss F0 H0 F σ' H ε'->Q σ' H)->g x σ H Q
theorem aN (i:Nat):Ux (bU i) λd ε ε'=>ε'=ε.set i (.fz d):=λF0 H0 F H σ ε ε' d x Q S h r q=>q _ (by subst r;exact S.PN h i)
noncomputable def sets:List Nat->List D->Ev->Ev
 | i::is,d::l,ε=>sets is l (ε.set i (.fz d))
 | _,_,ε=>ε
theorem ql:∀ (is:À)(F0 H0 F H:Hp) σ ε l xs (Q:Υ),Ss F0 H0 F σ H ε->Ij F l xs->l.length=is.length->(∀ σ',Ss F0 H0 F σ' H (sets is l ε)->Q σ' H)->WR is xs σ H Q
 | [],F0,H0,F,H,σ,ε,l,xs,Q,S,h,r,q=>by cases Hl r;exact⟨h,q σ S⟩
 | i::is,F0,H0,F,H,σ,ε,l,xs,Q,S,h,r,q=>by
  match l,r with
  | d::m,r=>
   obtain⟨v,ws,rfl,h1,h2⟩:=h;exact⟨v,ws,rfl,ql is F0 H0 F H _ _ m ws Q (S.PN h1 i) h2 (by simpa using r) q⟩
theorem fY (K:Ψ)(is:À):Ux (Aa K is.length (WR is)) λd ε ε'=>∃ l,d=.tup l/\l.length=is.length/\ε'=sets is l ε:=λF0 H0 F H σ ε ε' d x Q S h r q=>by obtain⟨l,rfl,hl,rfl⟩:=r;obtain⟨a,vs,rfl,ha,hv⟩:=h;exact⟨a,vs,rfl,Kc.of<|S.le _ _ ha,by rw[hv.length,hl],ql is F0 H0 F H σ ε l vs Q S hv hl q⟩
inductive lJ (q:Ô) (rb:Rs):Ev->List D->Fl->Prop
 |done {ε:Ev}:lJ q rb ε [] (.nx ε)
 |next {ε ε1 ε2:Ev}{d:D}{l:χ}{f:Fl}:q d ε ε1->rb ε1 (.nx ε2)->lJ q rb ε2 l f->lJ q rb ε (d::l) f
 |ret {ε ε1:Ev}{d v:D}{l:χ}:q d ε ε1->rb ε1 (.rt v)->lJ q rb ε (d::l) (.rt v)
theorem nq {tb:TS}(WB:∀ E σ H,tQ F0 H0 rb E σ H->tb E σ H)(hg:Ux g q)(S:Ss F0 H0 F1 σ H1 ε)(hJ:Qz F1 J l)(h:lJ q rb ε l f)(p:Tt F0 H0 F1 E f):
  ∃ W:Nat->Nat->Υ,(∃ m,W 0 m σ H1)/\∀ i m σ H,W i m σ H->
   (J.stop i H/\E.nx σ H)\/(J.go i H/\∃ N:Υ,(∀ σ' H',N σ' H'->∃ m',m'<m/\W (i+1) m' σ' H')/\∀ x H',J.S9 i H x H'->g x σ H' λσ2 H2=>tb { E with nx:=N,ct:=N,bk:=E.nx } σ2 H2):=by
 refine⟨λi m σ H=>m=l.length - i/\i<=l.length/\∃ F' ε',f' F1 F'/\Ss F0 H0 F' σ H ε'/\lJ q rb ε' (l.drop i) f,⟨_,rfl,EE _,F1,ε,f'.refl _,S,h⟩,?_⟩;rintro i m σ H ⟨rfl,hi,F',ε',u,S',w⟩;by_cases c:i<l.length
 ·rw[FX c]at w;obtain⟨go,yl⟩:=(hJ.mono u).go H i l[i] S'.le<|DF c;refine .inr ⟨go,?_⟩
  cases w with
  | next t b w=>
   refine⟨λσ' H'=>∃ F2,f' F1 F2/\Ss F0 H0 F2 σ' H' _,λσ2 H2 gR=>(by obtain⟨F2,u2,S2⟩:=gR;exact⟨_,by omega,rfl,c,F2,_,u2,S2,w⟩),λx H2 y=>?_⟩;obtain⟨e2,hx⟩:=yl x H2 y;exact hg _ _ _ _ _ _ _ _ x _ (S'.grow e2) hx t λσ3 S3=>WB _ _ _ ⟨_,_,_,S3,b,λσ4 H4 F4 u4 S4=>⟨F4,u.trans<|(ak S'.le).trans u4,S4⟩⟩
  | ret t b=>
   refine⟨λ_ _=>False,λ_ _ z=>z.elim,λx H2 y=>?_⟩;obtain⟨e2,hx⟩:=yl x H2 y;exact hg _ _ _ _ _ _ _ _ x _ (S'.grow e2) hx t λσ3 S3=>WB _ _ _ ⟨_,_,_,S3,b,p.up<|u.trans (ak S'.le)⟩
 ·rw[List.drop_of_length_le<|by omega]at w
  cases w;exact .inl ⟨(hJ.mono u).stop H i S'.le<|by omega,p σ H F' u S'⟩
inductive mf (ri:Ri) (q:Ô) (rb:Rs) (ε:Ev) (f:Fl):Prop
 |mk {l:χ}:ri (ε.map Sl.z) l->lJ q rb ε l f->mf ri q rb ε f
theorem qL (hp:PassesOwn X.Ę X.A X.env X.xe)(hc:X.calm=true)(hi:PI X tg iter (tI ri))(ht:PG X tg g)(hg:Ux g q)(hb:PF X ss rb)(hs:autoParam (ĕ X iter) ŏ):
  QS X (.For tg iter ss [] pos) (mf ri q rb):=λF0 H0=>(bV hp hc hi ht (hb F0 H0) hs).imp λE σ H ⟨F,ε,f,S,.mk (l:=l) h1 h2,p⟩=>
 ⟨F,_,l,S.z,h1,λJ H1 e1 hJ=>nq (λ_ _ _ h=>h) hg (S.grow e1) hJ h2<|p.up (ak S.le)⟩
inductive PQ (re:Rx) (ε:Ev) (d:D):Prop
 |z:re (ε.map Sl.z) d->PQ re ε d
 |a:re (ε.map Sl.a) d->mJ d=true->PQ re ε d
theorem PQ.go (S:Ss F0 H0 F σ H ε)(h:PQ re ε d)(k:∀ x H1 F',f' H H1->f' F F'->Ss F0 H0 F' σ H1 ε->DR F' d x->Q x H1):tP re σ H Q:=by
 cases h with
 | z h=>exact tP.go S.z h λx H1 e1 _ q1=>k x H1 _ e1 (ak S.le) (S.grow e1) q1
 | a h hf=>exact tP.go S.a h λx H1 e1 _ q1=>k x H1 _ e1 (f'.refl _) (S.JM e1) (Dl hf q1)
inductive U1 (i:Nat) (re:Rx) (ε:Ev):Fl->Prop
 |mk {l:χ}{d:D}:ε[i]?=some (.ow (.lst l))->l.length<=1000->PQ re ε d->U1 i re ε (.nx (ε.set i (.ow (.lst (l++[d])))))
theorem qA {K:Ψ}(h:PS X st (AC (Zz K "list" yt (sn i) (AE te wR))))(k:∀ σ H Q,tP re σ H Q->te σ H Q):QS X st (U1 i re):=λF0 H0=>h.imp λE σ H gR=>by obtain⟨F,ε,f,S,h,p⟩:=gR;obtain⟨h1,h2,h3⟩:=h;obtain⟨a,p1,p2,p3,vs,p4,p5⟩:=S.ro i _ h1;exact⟨_,p1,.inl ⟨rfl,vs,Il.of p4⟩,k _ _ _<|h3.go S λx H1 F' e1 u S1 q1=>⟨a,vs,x,rfl,rfl,e1 _ _ p4,HA (by rw[p5.length];exact h2)<|by decide +kernel,p σ _ F' u<|S1.chg h1 p1 ⟨_,ag,(p5.mono u).app<|.one q1⟩⟩⟩
end
section
variable {K:Ψ}{st:Stmt}{k:Nat}
noncomputable def ent (n:Nat)(l:χ):Ev:=l.map .fz++List.replicate (n - l.length) .un
theorem xP (N:η)(s:f' F H)(h:Ij F l vs):Ss F H F (start N vs) H (ent N.length l):=by
 have hl:=h.length;refine⟨f'.refl _,s,f'.refl _,ak s,by simp[ent,start,hl],λi d q=>?_,λi d q=>?_,λi j c d a n q=>?_⟩
 ·unfold ent at q;by_cases c:i<l.length
  ·rw[Em<|by simpa using c,DN]at q
   cases z:l[i]? with
   | none=>rw[z]at q;cases q
   | some e=>
    rw[z]at q;cases q;obtain⟨v,a,b⟩:=h.at z;exact⟨v,by unfold start;rw[Em<|by simp[hl,c],DN,a];rfl,b⟩
  ·rw[Es<|by simpa using c]at q
   cases (F5<|DO q)
 all_goals
  rcases Ea.mp (DO q) with z|z
  ·obtain⟨_,_,z⟩:=DI.mp z;cases z
  ·cases F5 z
def Tells (n m:Nat)(r:Rs)(R:Ä):Prop:=∀ l d,R l d->l.length=m/\(r (ent n l) (.rt d)\/d=.non/\∃ ε,r (ent n l) (.nx ε))
theorem Tells.ok {ps:η}(t:Tells N.length ps.length r R)(h:Pr R vs H Q E):vs.length=ps.length/\∃ F,tQ F H r { nx:=λ_ H'=>Q .non H',rt:=Q } (start N vs) H:=by
 obtain⟨F,l,d,s,hl,hR,q⟩:=h;obtain⟨hn,t⟩:=t l d hR;refine⟨by rw[hl.length,hn],F,?_⟩;rcases t with t|⟨rfl,ε,t⟩
 ·exact⟨F,_,_,xP N s hl,t,λx H' e _ z=>q x H' e z⟩
 ·exact⟨F,_,_,xP N s hl,t,λσ H' F' u S'=>q _ H' S'.b0 rfl⟩
theorem Iy.dv (F:Iy K x ğ st f fd)(S:ae N ps (a8 st))(t:Tells N.length ps.length r R)(b:∀ (HU:Value)(A:Ë)(outer:List Env)(s:Ê)(H:Hp)(E:XK),IA k (A.deeper (envOfC ğ (a8 st) s.heap.objs.size f HU))->PF (mN Ik P w K mg base N ğ (a8 st) f HU A outer s H E).QH (aH st) r):HP P w K mg base Ik (k+1) f fd ps (Pr R):=
 F.ok S (λvs H Q E h=>(t.ok h).1) λHU A outer s H vs Q E hr h=>let ⟨_,F,z⟩:=t.ok h;⟨_,b HU A _ s H E hr F H,z⟩
theorem JU.dv (F:JU K x ğ st f fd)(S:ae N ps (a8 st))(t:Tells N.length ps.length r R)(b:∀ (HU:Value)(A:Ë)(outer:List Env)(s:Ê)(H:Hp)(E:XK),IA k (A.deeper (envOfC ğ (a8 st) s.heap.objs.size f HU))->PF (mN Ik P w K mg base N ğ (a8 st) f HU A outer s H E).QH (aH st) r):HP P w K mg base Ik (k+1) f fd ps (Pr R):=
 JU.ok F S (λvs H Q E h=>(t.ok h).1) λHU A outer s H vs Q E hr h=>let ⟨_,F,z⟩:=t.ok h;⟨_,b HU A _ s H E hr F H,z⟩
end
section
variable {K:Ψ}{b c e:Expr}{rs:Á}{F H:Hp}
inductive fI (C:Int->Int->Prop) (g:Int->Int->D):D->D->D->Prop
 |mk {i j:Int}:C i j->fI C g (.int i) (.int j) (g i j)
theorem NB (h:∀ i j,eV (g i j)=true:=by intro _ _;rfl):P1 (fI C λi j=>PV (g i j)) (rI C g):=λF H x y u v d Q s z hu hv q=>by obtain @⟨i,j,hc⟩:=z;exact⟨i,j,hu,hv,hc,tP.at s q (Bq<|h i j)⟩
theorem gr (h:∀ i j,eV (g i j)=true:=by intro _ _;rfl):P1 (fI (λ_ _=>True) λi j=>PV (g i j)) (SK g):=λF H x y u v d Q s z hu hv q=>by obtain @⟨i,j,_⟩:=z;exact⟨i,j,hu,hv,tP.at s q (Bq<|h i j)⟩
noncomputable def fv:D->V
 | .bl b=>.bl b
 | .int i=>.int i
 | .str x=>.str x
 | _=>.non
theorem ki:∀ {d:D}{v:V},mJ d=true->DR F d v->v=fv d
 | .non,_,_,h=>h
 | .bl _,_,_,h=>h
 | .int _,_,_,h=>h
 | .str _,_,_,h=>h
theorem oS:∀ {l:χ}{vs:π},l.all mJ=true->Ij F l vs->vs=l.map fv
 | [],_,_,h=>h
 | d::l,_,hf,⟨v,ws,q1,q2,q3⟩=>by rw[List.all_cons,F6]at hf;rw[q1,ki hf.1 q2,oS hf.2 q3];rfl
theorem u5:∀ {d:D},mJ d=true->eV (fv d)=true
 | .non,_=>rfl
 | .bl _,_=>rfl
 | .int _,_=>rfl
 | .str _,_=>rfl
inductive fE (n:Bool) (x y d:D):Prop
 |mk:mJ x=true->mJ y=true->UQ (fv x) (fv y)=true->d=.bl (if n=true then !decide (fv x=fv y) else decide (fv x=fv y))->fE n x y d
theorem cF:P1 (fE false) rEq:=λF H x y u v d Q s gR hu hv q=>by obtain⟨h1,h2,h3,h4⟩:=gR;rw[ki h1 hu,ki h2 hv];exact⟨h3,tP.at s q (by rw[h4];rfl)⟩
theorem xt:P1 (fE true) rNe:=λF H x y u v d Q s gR hu hv q=>by obtain⟨h1,h2,h3,h4⟩:=gR;rw[ki h1 hu,ki h2 hv];exact⟨h3,tP.at s q (by rw[h4];rfl)⟩
noncomputable def isN:D->Bool
 | .non=>true
 | _=>false
theorem BH:∀ {d:D}{v:V},DR F d v->decide (v=.non)=isN d
 | .non,_,h=>by rw[h];rfl
 | .bl _,_,h=>by rw[h];rfl
 | .int _,_,h=>by rw[h];rfl
 | .str _,_,h=>by rw[h];rfl
 | .lst _,_,⟨_,_,h,_⟩=>by rw[h];rfl
 | .scr _,_,⟨_,_,h,_⟩=>by rw[h];rfl
 | .tup _,_,⟨_,_,h,_⟩=>by rw[h];rfl
 | .dct _ _,_,⟨_,_,h,_⟩=>by rw[h];rfl
 | .ins _ _ _,_,⟨_,_,_,h,_⟩=>by rw[h];rfl
inductive fN (n:Bool) (x:D):D->D->Prop
 |mk:fN n x .non (.bl (if n=true then !isN x else isN x))
theorem qK:P1 (fN false) (λx y H Q=>y=.non/\Q (.bl (decide (x=.non))) H):=λF H x y u v d Q s z hu hv q=>by cases z;exact⟨hv,tP.at s q (by rw[BH hu];rfl)⟩
theorem qJ:P1 (fN true) (λx y H Q=>y=.non/\Q (.bl (!decide (x=.non))) H):=λF H x y u v d Q s z hu hv q=>by cases z;exact⟨hv,tP.at s q (by rw[BH hu];rfl)⟩
inductive Sq:D->List D->Prop
 |lst {l:χ}:Sq (.lst l) l
 |scr {l:χ}:Sq (.scr l) l
theorem Sq.at (q:Sq d l)(h:DR F d v):∃ a vs,v=.ref a/\Rd F a (.lst vs)/\Ij F l vs:=by
 cases q with
 | lst=>obtain⟨a,vs,h1,h2,h3⟩:=h;exact⟨a,vs,h1,.inl h2,h3⟩
 | scr=>exact h
theorem Ij.O3 {l:χ}{vs:π}{i:Int}{d:D} (h:Ij F l vs) (e:O3 l i=some d):∃ v,L2.O3 vs i=some v/\DR F d v:=by
 unfold L2.O3 at e ⊢;rw[h.length]
 cases z:RF l.length i with
 | none=>rw[z]at e;cases e
 | some j=>rw[z]at e;exact h.at e
theorem a1u (s:f' F H)(h1:Sq x l)(h3:L2.O3 l i=some d)(hu:DR F x u)(hv:DR F (.int i) v)(q:∀ x H',f' H H'->DR (grow F H H') d x->Q x H'):CM K u v H Q:=by obtain⟨a,vs,rfl,p1,p2⟩:=h1.at hu;obtain⟨w,p3,p4⟩:=p2.O3 h3;exact⟨a,vs,i,w,rfl,hv,.inl<|p1.mono s,p3,tP.at s q p4⟩
theorem a1t (s:f' F H)(h3:L2.O3 l i=some d)(hu:DR F (.tup l) u)(hv:DR F (.int i) v)(q:∀ x H',f' H H'->DR (grow F H H') d x->Q x H'):CK K u v H Q:=by obtain⟨a,vs,rfl,p1,p2⟩:=hu;obtain⟨w,p3,p4⟩:=p2.O3 h3;exact⟨a,vs,i,w,rfl,hv,Kc.of<|s _ _ p1,p3,tP.at s q p4⟩
inductive Wm:D->List D->Prop
 |sq {x:D}{l:χ}:Sq x l->Wm x l
 |tup {l:χ}:Wm (.tup l) l
inductive fIn (n:Bool) (x y d:D):Prop
 |mk {l:χ}:Wm y l->mJ x=true->l.all mJ=true->d=.bl (if n=true then !Sa (fv x) (l.map fv) else Sa (fv x) (l.map fv))->fIn n x y d
theorem a1v:P1 (fIn n) (ZH K n):=λF H x y u v d Q s z hu hv q=>by
 obtain @⟨l,h1,h2,h3,h4⟩:=z;have hf:(l.map fv).all eV=true:=by rw[Hw,Fs];exact λz hz=>u5 (Fs.mp h3 z hz)
 rcases h1 with h1|_
 ·obtain⟨a,vs,rfl,p1,p2⟩:=h1.at hv;exact⟨a,l.map fv,rfl,.inl<|oS h3 p2▸.inl (p1.mono s),by rw[ki h2 hu];exact u5 h2,hf,tP.at s q (by rw[h4,ki h2 hu];rfl)⟩
 ·obtain⟨a,vs,rfl,p1,p2⟩:=hv;exact⟨a,l.map fv,rfl,.inr<|oS h3 p2▸Kc.of (s _ _ p1),by rw[ki h2 hu];exact u5 h2,hf,tP.at s q (by rw[h4,ki h2 hu];rfl)⟩
theorem k9 (s:f' F H)(q:∀ x H',f' H H'->DR (grow F H H') d x->Q x H')(h:∀ a G,f' F G->G a=some o->DR G d (.ref a)):JJ H o Q:=λp H2 e n z=>q _ H2 e (h p _ (ak s) (by rw[aw n];exact z))
inductive YU:D->D->D->Prop
 |mk {l m:χ}:l.length+m.length<=10000->YU (.lst l) (.lst m) (.lst (l++m))
theorem XJ:P1 YU U0:=λF H x y u v d Q s z hu hv q=>by obtain @⟨l,m,h3⟩:=z;obtain⟨a,vs,rfl,p1,p2⟩:=hu;obtain⟨b,us,rfl,p3,p4⟩:=hv;exact⟨a,b,vs,us,rfl,rfl,s _ _ p1,s _ _ p3,Ei (by rw[p2.length,p4.length];exact h3)<|by decide +kernel,k9 s q λc G e z=>⟨c,_,rfl,z,(p2.mono e).app<|p4.mono e⟩⟩
def Cb (R:Ä)(r:List V->Hp->VK->Prop):Prop:=∀ (F H:Hp) l xs d (Q:VK),f' F H->R l d->Ij F l xs->(∀ z H',f' H H'->DR (grow F H H') d z->Q z H')->r xs H Q
theorem tP.cb (k:Cb R r)(h:tP (rF R rs) σ H Q):tCB r (KU rs) σ H Q:=by obtain⟨F,ε,d,S,@⟨l,h1,h2⟩,q⟩:=h;exact KU.go S h1 λxs H1 e1 S1 q1=>k _ H1 l xs d Q S1.le h2 q1 λz H2 e2 q2=>q z H2 (e1.trans e2) (by rwa [au e1 e2]at q2)
inductive Zg:Ä
 |mk {x:D}{m:χ}:Wm x m->Zg [x] (.int m.length)
theorem Wd:Cb Zg (λxs H Q=>∃ p ys,xs=[.ref p]/\(Il K H p ys\/Kc K H p ys)/\Q (.int ys.length) H):=λF H l xs d Q s z hx q=>by
 obtain⟨h2⟩:=z;obtain⟨v,ws,rfl,p,rfl⟩:=hx;rcases h2 with h2|_
 ·obtain⟨a,vs,rfl,p1,p2⟩:=h2.at p;exact⟨a,vs,rfl,.inl<|.inl (p1.mono s),by rw[p2.length];exact tP.at s q rfl⟩
 ·obtain⟨a,vs,rfl,p1,p2⟩:=p;exact⟨a,vs,rfl,.inr<|Kc.of (s _ _ p1),by rw[p2.length];exact tP.at s q rfl⟩
theorem ju {ns:Ξ}(h:Ij F (ns.map .int) vs):vs=ns.map V.int:=by rw[oS (by simp[mJ]) h,DL];rfl
theorem yY {bs:Ð}(h:Ij F (bs.map .bl) vs):vs=bs.map V.bl:=by rw[oS (by simp[mJ]) h,DL];rfl
inductive Ze:Ä
 |mk {ns:Ξ}{l:χ}:l=ns.map .int->Ze [.lst l] (.int ns.sum)
theorem Wc:Cb Ze (λxs H Q=>∃ (p:Addr)(ns:Ξ),xs=[.ref p]/\Il K H p (ns.map V.int)/\Q (.int ns.sum) H):=λF H l xs d Q s z hx q=>by obtain @⟨ns,_,h⟩:=z;subst h;obtain⟨v,ws,rfl,⟨a,vs,rfl,p1,p2⟩,rfl⟩:=hx;exact⟨a,ns,rfl,Il.of<|ju p2▸s _ _ p1,tP.at s q rfl⟩
inductive Q6:Ä
 |mk {bs:Ð}{l:χ}:l=bs.map .bl->Q6 [.lst l] (.bl (bs.all id))
inductive Tj:Ä
 |mk {bs:Ð}{l:χ}:l=bs.map .bl->Tj [.lst l] (.bl (bs.any id))
theorem ud:Cb Q6 (λxs H Q=>∃ (p:Addr)(bs:Ð),xs=[.ref p]/\Il K H p (bs.map V.bl)/\Q (.bl (bs.all id)) H):=λF H l xs d Q s z hx q=>by obtain @⟨ns,_,h⟩:=z;subst h;obtain⟨v,ws,rfl,⟨a,vs,rfl,p1,p2⟩,rfl⟩:=hx;exact⟨a,ns,rfl,Il.of<|yY p2▸s _ _ p1,tP.at s q rfl⟩
theorem We:Cb Tj (λxs H Q=>∃ (p:Addr)(bs:Ð),xs=[.ref p]/\Il K H p (bs.map V.bl)/\Q (.bl (bs.any id)) H):=λF H l xs d Q s z hx q=>by obtain @⟨ns,_,h⟩:=z;subst h;obtain⟨v,ws,rfl,⟨a,vs,rfl,p1,p2⟩,rfl⟩:=hx;exact⟨a,ns,rfl,Il.of<|yY p2▸s _ _ p1,tP.at s q rfl⟩
inductive Zf:Ä
 |mk {x:D}{m:χ}:Wm x m->Zf [x] (.lst m)
theorem Dt:Cb Zf (λxs H Q=>∃ p ys,xs=[.ref p]/\(Il K H p ys\/Kc K H p ys)/\JJ H (.lst ys) Q):=λF H l xs d Q s z hx q=>by
 obtain⟨h2⟩:=z;obtain⟨v,ws,rfl,p,rfl⟩:=hx;rcases h2 with h2|_
 ·obtain⟨a,vs,rfl,p1,p2⟩:=h2.at p;exact⟨a,vs,rfl,.inl<|.inl (p1.mono s),k9 s q λc G e z=>⟨c,_,rfl,z,p2.mono e⟩⟩
 ·obtain⟨a,vs,rfl,p1,p2⟩:=p;exact⟨a,vs,rfl,.inr<|Kc.of (s _ _ p1),k9 s q λc G e z=>⟨c,_,rfl,z,p2.mono e⟩⟩
inductive rDs (c:List D->D) (rs:Á) (ε:En) (d:D):Prop
 |mk {l:χ}:rs ε l->l.length<=1000->d=c l->rDs c rs ε d
theorem mM (h:PA X es (KU rs)):PE X (.Tuple es x1 pos) (tP (rDs .tup rs)):=(eM h).imp λσ H Q gR=>by obtain⟨F,ε,d,S,⟨h1,h2,h3⟩,q⟩:=gR;exact KU.go S h1 λxs H1 e1 S1 q1=>⟨Ei (by rw[q1.length];exact h2)<|by decide +kernel,k9 S1.le (λx H2 e2 q2=>q x H2 (e1.trans e2)<|by rwa [au e1 e2]at q2) λc G e z=>by rw[h3];exact⟨c,_,rfl,z,q1.mono e⟩⟩
theorem d7 (h:PA X es (KU rs)):PE X (.List es pos) (tN (rDs .lst rs)):=(gj h).imp λσ H Q ⟨F,ε,d,S,⟨h1,h2,h3⟩,q⟩=>KU.go S h1 λxs H1 e1 S1 q1=>⟨Ei (by rw[q1.length];exact h2)<|by decide +kernel,λp H2 e2 n z=>by
 have n0:H p=none:=by cases y:H p with
  | none=>rfl
  | some o=>rw[e1 _ _ y]at n;cases n
 refine q p H2 (e1.trans e2) n0 ?_;rw[h3];refine⟨xs,z,q1.mono λb o y=>?_⟩;rw[bN (λzz=>by rw[zz,aw n0]at y;rw[y]at n;cases n)];exact aQ e2 _ _ y⟩
theorem dV (h:PT X e (AB (tP ra))):PT X e (MY λε b=>ra ε (.bl b)):=h.imp λσ H Q gR=>by obtain⟨F,ε,c,S,h,q⟩:=gR;exact⟨F,ε,.bl c,S,h,λ_ H' e z=>⟨c,z,q H' e⟩⟩
end
theorem tW:typeLookup (.type "list") "keys"=pure none:=by rw[typeLookup_type,builtinLookup_eq_fast];kernel_rfl
theorem eX:entryFor table "dict.update.loop"=some Builtin.«dict.update.loop»:=entryFor_of_tree (by kernel_rfl)
theorem zR (hx:s.heap.get? a=some ⟨.type "list",none,.seq xs k,sl⟩)(hA:A.handled=none)(h:∀ h' tk e,Heap.NewExcOf s.heap h' e "AttributeError"->Q none { s with heap:=h',toks:=tk }):wpAny (model prog w) A (getAttr? (.ref a) "keys") Q E s:=by
 obtain⟨hp,g,d,tk,os⟩:=s
 have hT:∀ X8,(⟨hp,g,d,X8,os⟩:Ê).TypeIs (.ref a) "list":=λ_=>⟨_,hx,rfl⟩
 have f1:=sub_AttributeError
 have f3:=F.slot_list_getattribute.lookup
 have f4:=F.slot_list_getattribute.bind (.ref a)
 have f5:=am_list_getattr_none
 unfold getAttr? getAttrBy? getAttrBy
 repeat (any_goals (first|assumption|exact hT _|((with_reducible show wpAny _ _ (call (Value.builtin "list.__getattribute__") _ _) _ _ _);refine Hz F.slot_list_getattribute (hT _) am_entry_list_getattribute (F.args_list_getattribute_2 _ _) (meets_getattribute_miss_list a xs k sl "keys" _ tW (by decide) (by size_fits)) ⟨hx,hA,λh' X8 e QO=>?_⟩)|wp_step))
 obtain⟨t',u',he⟩:=QO.there
 show wpAny _ _ (getattributeRaised _ _ _ _ _ _ _) _ _ _
 unfold getattributeRaised
 repeat (any_goals (first|assumption|wp_step))
 exact h _ _ _ QO.of
section
variable {prog:É}{w:World}{κ:Type}[DecidableEq κ]{knd:KeyKind prog w κ}
def z7 (knd:KeyKind prog w κ)(h:Heap)(items:Ò)(ps:List (κ×Value)):Prop:=items.size=ps.length/\∀ (i:Nat) x p,items[i]?=some x->ps[i]?=some p->∃ t u,x=.ref t/\h.IsTuple t #[u,p.2]/\knd.is p.1 u=true
theorem xC {ps:List (κ×Value)}(hh:A.handled=none)(Sg:ps.length<=1000)(hdl:d≠l)(hil:it≠l)(hdi:d≠it)(R:Result->Shared->Prop):
  ∀ (n i:Nat)(s:Ê),n=ps.length - i->i<=ps.length->s.heap.IsListIter it l i->s.heap.IsList l items->z7 knd s.heap items ps->s.heap.DictOf knd d (merged [] (ps.take i))->
   (∀ h' tk,h'.DictOf knd d (merged [] ps)->(∀ b o,b≠d->b≠it->s.heap.get? b=some o->h'.get? b=some o)->R (.ok (.ret .none)) { s with heap:=h',toks:=tk })->
   codeAny (model prog w) A (.builtin "dict.update.loop" ⟨[.ref d,.ref it,rawInt i,.none],[]⟩) R s:=by
 intro n
 induction n with
 | zero=>
  intro i s hn hi hit hl hp hd h;have ei:i=ps.length:=by omega
  refine codeAny_builtin eX ?_;refine DK (wpAny_pyNext_list_end hh hit hl (Array.getElem?_eq_none (by rw[hp.1];omega)) λh' ext=>?_);obtain⟨o,es,ep,ho,r⟩:=hd;refine DK (DW<|DW (h h' _ ⟨o,es,ep,ext d o hdi ho,by rw[ei,Et]at r;exact r⟩ λb o hb1 hb2 hb=>ext b o hb2 hb))
 | succ n ih=>
  intro i s hn hi hit hl hp hd h;have Kb:i<ps.length:=by omega
  obtain⟨p,ep⟩:∃ p,ps[i]?=some p:=⟨_,DF Kb⟩
  obtain⟨x,ex⟩:∃ x,items[i]?=some x:=⟨_,Fg (by rw[hp.1];exact Kb)⟩
  obtain⟨t,u,rfl,ht,hk⟩:=hp.2 i x p ex ep;refine codeAny_builtin eX ?_;have neT:∀ t' v',s.heap.IsTuple t' v'->t'≠it/\t'≠d:=λt' v' gR=>by
   obtain⟨o',OS,_,n',Oi⟩:=gR;obtain⟨oi,hoi,_,a2t⟩:=hit;obtain⟨od,es,ep,hod,_,hdd,_⟩:=hd;constructor
   ·intro z;rw[z,hoi]at OS
    cases OS;rw[a2t]at Oi
    cases Oi
   ·intro z;rw[z,hod]at OS
    cases OS;rw[hdd]at Oi
    cases Oi
  refine DK (wpAny_pyNext_list_item hit hl ex λh1 a2k sb1=>?_);have MH:∀ b o,b≠it->s.heap.get? b=some o->h1.get? b=some o:=λb o hb e=>(sb1.2 b hb).trans e;have X4:∀ t' v',s.heap.IsTuple t' v'->h1.IsTuple t' v':=λt' v' z=>by obtain⟨o',OS,r'⟩:=id z;exact⟨o',MH t' o' (neT t' v' z).1 OS,r'⟩
  have Si:h1.DictOf knd d (merged []<|ps.take i):=by obtain⟨o,es,ep,ho,r⟩:=hd;exact⟨o,es,ep,MH d o hdi ho,r⟩
  have MU:h1.IsList l items:=by obtain⟨o,ho,r⟩:=hl;exact⟨o,MH l o hil.symm ho,r⟩
  obtain⟨ot,hot,hct,nt,hdt⟩:=X4 t _ ht;refine DK<|Fn (DK (wpAny_tryCatch ?_));refine DK (wpAny_typeOf ⟨ot,hot,hct⟩ ?_);refine DK<|wpAny_seqItems hot hdt (DW ?_);have Ys:(merged []<|ps.take i).length<=sizeLine:=by have h1:=merged_length_le ([])<|ps.take i;rw[E4]at h1;have h2:sizeLine=2 ^ 24:=rfl;simp only[FY]at h1;omega
  refine Fn (wpAny_dictSet_pairs hk Si λh2 hd2 sb2=>?_);have JQ:∀ b o,b≠d->h1.get? b=some o->h2.get? b=some o:=λb o hb e=>(sb2.2 b hb).trans e;refine DW ⟨HD _<|by decide +kernel,?_⟩;refine ih (i+1) { s with heap:=h2,toks:=s.toks+1 } (by omega) (by omega) ?_ ?_ ⟨hp.1,λj x' p' h3 h4=>?_⟩ ?_ λh' tk h3 h4=>h h' tk h3 λb o hb1 hb2 hb=>h4 b o hb1 hb2 (JQ b o hb1<|MH b o hb2 hb)
  ·obtain⟨oi,hoi,r⟩:=a2k;exact⟨oi,JQ it oi hdi.symm hoi,r⟩
  ·obtain⟨ol,hol,r⟩:=MU;exact⟨ol,JQ l ol hdl.symm hol,r⟩
  ·obtain⟨t',u',e',OA,LZ⟩:=hp.2 j x' p' h3 h4;obtain⟨o',OS,r'⟩:=X4 t' _ OA;exact⟨t',u',e',⟨o',JQ t' o' (neT t' _ OA).2 OS,r'⟩,LZ⟩
  ·rw[merged_take_succ _ _ i p ep];exact hd2
theorem xY {ps:List (κ×Value)}(hh:A.handled=none)(hl:s.heap.get? l=some ⟨.type "list",none,.seq items n,sl⟩)(hp:z7 knd s.heap items ps)(Sg:ps.length<=1000)(h:∀ h' tk,h'.DictOf knd s.heap.objs.size (merged [] ps)->(∀ b o,s.heap.get? b=some o->h'.get? b=some o)->Q (.ref s.heap.objs.size) { s with heap:=h',toks:=tk }):
  wpAny (model prog w) A (call (.type "dict") [.ref l]) Q E s:=by
 refine callType_codes (Q₁:=λobj s₁=>obj=.ref s.heap.objs.size/\s₁={ s with heap:=s.heap.push { cls:=.type "dict",data:=.dict #[] } }) F.kt_called_dict (F.kt_typeCall_dict_1 _) F.entry_dict_init (kt_code_dict_new _ ⟨rfl,rfl⟩) ?_;rintro obj s₁ ⟨rfl,rfl⟩;have Ka:(s.heap.push { cls:=.type "dict",data:=.dict #[] }).DictOf knd _ []:=Heap.DictOf.new _;have hl':=DU { cls:=.type "dict",data:=.dict #[] } hl;refine⟨Ka.typeIs,F.args_dict_init_2 _ _,?_⟩;refine DK ?_;refine DK (Hb Ka.typeIs ?_);refine DW ?_;refine DK (wpAny_typeOf ⟨_,hl',rfl⟩ ?_);refine DK (zR hl' hh λh1 X7 e1 ne1=>?_);have Ki:=λb o e=>ne1.keeps b o<|DU _ e;have MU:h1.IsList l items:=⟨_,Ki _ _ hl,rfl,n,rfl⟩
 refine DK (wpAny_rule ?_);refine DK (GP MU ?_);refine DW ⟨HD _<|by decide +kernel,?_⟩;have kp:∀ b o,h1.get? b=some o->(h1.push { cls:=.type "list_iterator",data:=.fields #[.ref l,.int 0 0] }).get? b=some o:=λb o e=>DU _ e;have Si:h1.DictOf knd s.heap.objs.size []:=by obtain⟨o,es,ep,ho,r⟩:=Ka;exact⟨o,es,ep,ne1.keeps _ _ ho,r⟩
 have nl:=FQ<|E8 hl;have lt1:s.heap.objs.size<h1.objs.size:=by obtain⟨o,es,ep,ho,r⟩:=Si;exact E8 ho
 refine xC (A:=A.in1) (knd:=knd) hh Sg nl (FQ<|E8 (Ki _ _ hl)) (EL lt1) _ ps.length 0 { s with heap:=h1.push { cls:=.type "list_iterator",data:=.fields #[.ref l,.int 0 0] },toks:=X7 } (by omega) (EE _) ⟨_,Eb _ rfl,rfl,rfl⟩ ?_ ⟨hp.1,λi x p h3 h4=>?_⟩ ?_ λh' tk hD keep=>?_
 ·obtain⟨o,ho,r⟩:=MU;exact⟨o,kp _ _ ho,r⟩
 ·obtain⟨t,u,e,⟨o,ho,r⟩,hk⟩:=hp.2 i x p h3 h4;exact⟨t,u,e,⟨o,kp _ _<|Ki _ _ ho,r⟩,hk⟩
 ·obtain⟨o,es,ep,ho,r⟩:=Si;exact⟨o,es,ep,kp _ _ ho,by exact r⟩
 ·refine⟨rfl,h h' tk hD λb o e=>keep b o (EL<|E8 e) (EL<|E8 (Ki b o e))<|kp b o (Ki b o e)⟩
end
def uu (H:Hp)(p:Addr)(ķ:ξ):Prop:=∃ xs,H p=some (.lst xs)/\Paired (λv (kv:Key×V)=>∃ t,v=.ref t/\H t=some (.tup [kV kv.1,kv.2])) xs ķ
theorem v4 (Iq:Mf P w H h):∀ {xs:π}{ķ:ξ}{its:θ},Paired (λv (kv:Key×V)=>∃ t,v=.ref t/\H t=some (.tup [kV kv.1,kv.2])) xs ķ->Vals xs its->
  ∃ ps:List (Key×Value),KV ķ ps/\its.length=ps.length/\∀ (i:Nat) x p,its[i]?=some x->ps[i]?=some p->∃ t u,x=.ref t/\h.IsTuple t #[u,p.2]/\(aM P w).is p.1 u=true
 | _,_,_,.nil,.nil=>⟨[],.nil,rfl,λi x p h1 _=>by simp at h1⟩
 | _,kv::_,_,.cons ⟨t,e,ht⟩ r,.cons (b:=b) rv rvs=>by
  obtain⟨ps,k1,k2,k3⟩:=v4 Iq r rvs;subst e;obtain rfl:b=Value.ref t:=rv;obtain⟨_,Ma,r2,ob,ho,hc,n,hd⟩:=(show Im P w H h t (.tup [kV kv.1,kv.2]) from Iq t _ ht)
  obtain⟨u,v,rfl,ru,TM⟩:=Aw r2;refine⟨(kv.1,v)::ps,.cons ⟨rfl,TM⟩ k1,by simp[k2],λi x p h1 h2=>?_⟩
  cases i with
  | zero=>
   have h1:Value.ref t=x:=by simpa using h1
   have h2:(kv.1,v)=p:=by simpa using h2
   subst h1 h2;exact⟨t,u,rfl,⟨ob,ho,hc,n,hd⟩,ke ru⟩
  | succ i=>exact k3 i x p (by simpa using h1) (by simpa using h2)
theorem c8 (hc:X.calm=true):IL X (.type "dict") (λxs H Q=>∃ p ķ,xs=[.ref p]/\uu H p ķ/\ķ.length<=1000/\JJ H (.dK (b8 [] ķ)) Q):=by
 intro ñ s σ H xs us Q I r h;obtain⟨p,ķ,rfl,⟨ys,hy,hp⟩,hz,q⟩:=h;obtain⟨u,rfl,rx⟩:=gG r;obtain rfl:u=Value.ref p:=rx;obtain⟨z,its,n,rv,e⟩:=(I.Iq p _ hy)
 obtain⟨ps,k1,k2,k3⟩:=v4 I.Iq hp rv;have T7:=KV.length k1;refine xY (I.ok.hd hc) e ⟨by exact k2,λi x p h1 h2=>k3 i x p (by simpa using h1) h2⟩ (by omega) λh' tk hD keep=>?_;have Qr:(b8 [] ķ).length<=sizeLine:=by have h1:=bY ķ [];rw[FY]at h1;rw[sizeLine_eq];omega
 refine⟨.ref _,_,I.laid keep (DV _) ?_,rfl,q.at (I.Iq.fresh<|DV _)⟩;exact⟨Qr,Fw.mpr<|FQ I.big,_,k1.merge .nil,hD⟩
open PySem.Calls
theorem r8:∀ {us:θ}{ns:Ξ},IntsAre us ns->Vals (ns.map V.int) us
 | _,_,.nil=>.nil
 | _,_,.cons _ t h=>.cons ⟨t,rfl⟩ (r8 h)
theorem yK:∀ {us:θ}{ns:Ξ},us.length=ns.length->(∀ (j:Nat)(n:Int)(u:Value),ns[j]?=some n->us[j]?=some u->∃ t,u=.int n t)->IntsAre us ns
 | [],[],_,_=>.nil
 | u::us,n::ns,hl,h=>by obtain⟨t,rfl⟩:=h 0 n u rfl rfl;exact .cons n t (yK (by simpa using hl) λj m v h1 h2=>h (j+1) m v (by simpa using h1)<|by simpa using h2)
 | [],_::_,hl,_=>by cases hl
 | _::_,[],hl,_=>by cases hl
theorem mP (hc:X.calm=true):IL X (.builtin "sorted") (λxs H Q=>∃ d ķ ns,xs=[.ref d]/\Rd H d (.dK ķ)/\ķ.map (·.1)=ns.map (λn:Int=>(Sum.inl n:Key))/\ns.length<64/\
  ∀ OM:Ξ,OM.Perm ns->OM.Pairwise (·<=·)->JJ H (.lst (OM.map V.int)) Q):=by
 intro ñ s σ H xs us Q I r h;obtain⟨d,ķ,ns,rfl,hd,VN,h64,q⟩:=h;obtain⟨u,rfl,rx⟩:=gG r
 cases rx;obtain⟨z,lo,vs,rel,o,es,ep,ho,hx,RN,hk,hp,VL⟩:=(hd.ok I.Iq)
 have hl:es.size=vs.length:=by rw[<- hp.length];simp
 have T7:=KV.length rel;have hkn:ķ.length=ns.length:=by have:=congrArg List.length VN;simpa using this
 refine call_function_entry kind_sorted plain_sorted entry_sorted (args_sorted1 _) ?_;refine DK (DW ?_);refine DK (W.kdu_collect (yp lo) (I.ok.hd hc) ⟨o,ho,hx,RN⟩ (by rw[hl,<- T7];exact z) λh' tk acc keep QW=>?_);have hI:IntsAre acc.toList ns:=by
  refine yK (by have h1:=QW.1;rw[<- GL]at h1;rw[h1,hl,<- T7,hkn]) λj n u' hn hu=>?_;have hkj:(ķ.map (·.1))[j]?=some (Sum.inl n):=by rw[VN,DN,hn];rfl
  rw[DN]at hkj;obtain⟨kv,ekv,Yu⟩:=EG.mp hkj;obtain⟨q',P',RJ⟩:=Paired.at rel ekv;have hj:j<es.size:=by rw[hl];exact (DJ.mp P').1
  have h1:(es[j]?).map _=some u':=QW.2 j u' (by rw[<- FW];exact hu);rw[Fg hj]at h1;have h2:=(Pairs.get? hp (by rw[FW,Fg hj]) P').1;have h3:=Option.some.inj h1;have h4:=tX h2;rw[<- RJ.1,Yu]at h4;rw[<- h3];exact h4
 have hlen:acc.toList.length<64:=by have h1:=QW.1;rw[GL,h1,hl,<- T7,hkn];exact h64
 refine DK (wpAny_newList ?_<|Ei (GU hlen) (by decide));have Yo:(h'.push _).get? h'.objs.size=some (seqObj "list" acc.toList.toArray 0):=Eb _ rfl;refine DK<|Fn (GH slot_list_sort ⟨_,Yo,rfl⟩ entry_list_sort (list_sort_tree Yo hI hlen λout OM a1 a2 a3=>⟨_,rfl,?_⟩)<|args_list_sort _);refine DW ⟨_,rfl,?_⟩;have Y1:∀ b u,h'.get? b=some u->(sortedHeap (h'.push<|seqObj "list" acc.toList.toArray 0) _ acc.toList out).get? b=some u:=λb u h1=>by have h2:=E8 h1;rw[sortedHeap_old (EL h2) (by rw[size_push'];exact HH h2)];exact DU _ h1
 obtain⟨e,hat⟩:=sortedHeap_at Yo;have VE:=r8 a1;have WE:(OM.map V.int).length<=sizeLine:=by rw[DH,a2.length_eq];exact Ei (GU h64) (by decide)
 have I1:=I.kept (t':=tk) keep;refine⟨.ref _,_,I1.laid Y1 (DV _)<|show Im _ X.w _ _ _ (.lst _) from ⟨WE,out.toList,e,VE,?_⟩,rfl,(q OM a2 a3).at (I1.Iq.fresh<|DV _)⟩;simpa using hat
section
variable {κ:Type}[DecidableEq κ]
theorem xZ {knd:KeyKind prog w κ}{ps:List (κ×Value)}(hl:s.heap.DictOf knd l ps)(hS:(l==sysModules)=false)(hz:ps.length<=sizeLine)(h:∀ h',h'.DictOf knd s.heap.objs.size (merged [] ps)->(∀ b o,s.heap.get? b=some o->h'.get? b=some o)->Q (.ref s.heap.objs.size) { s with heap:=h' }):
  wpAny (model prog w) A (call (.type "dict") [.ref l]) Q E s:=by
 refine callType_codes (Q₁:=λobj s₁=>obj=.ref s.heap.objs.size/\s₁={ s with heap:=s.heap.push { cls:=.type "dict",data:=.dict #[] } }) F.kt_called_dict (F.kt_typeCall_dict_1 _) F.entry_dict_init (kt_code_dict_new _ ⟨rfl,rfl⟩) ?_;rintro obj s₁ ⟨rfl,rfl⟩;have Ka:(s.heap.push { cls:=.type "dict",data:=.dict #[] }).DictOf knd _ []:=Heap.DictOf.new _;have kp:∀ b o,s.heap.get? b=some o->(s.heap.push { cls:=.type "dict",data:=.dict #[] }).get? b=some o:=λb o e=>DU _ e;have lt:l<s.heap.objs.size:=by obtain⟨o,es,ep,ho,r⟩:=hl;exact E8 ho
 have hl':(s.heap.push { cls:=.type "dict",data:=.dict #[] }).DictOf knd l ps:=by obtain⟨o,es,ep,ho,r⟩:=hl;exact⟨o,es,ep,kp _ _ ho,r⟩
 refine⟨Ka.typeIs,F.args_dict_init_2 _ _,?_⟩;refine DK ?_;refine DK (Hb Ka.typeIs ?_);refine DW ?_;refine DK (wpAny_typeOf hl'.typeIs ?_);refine DK ?_;refine DK ?_;refine DK (wpAny_isInstance hl'.typeIs isSubtype_dict_dict ?_);refine DK<|wpAny_specialOf hl'.typeIs F.slot_dict_iter.lookup (DW ?_);refine DK (DW ?_);refine wpAny_mergeDict (FQ lt) hS Ka hl' λh' Oi OS hs'=>?_;refine DK<|DW (DW ⟨rfl,h h' Oi λb o e=>?_⟩);exact (hs'.2 b<|EL (E8 e)).trans (kp b o e)
end
theorem Ol:IL X (.type "dict") (λxs H Q=>∃ p ķ,xs=[.ref p]/\Rd H p (.dK ķ)/\JJ H (.dK (b8 [] ķ)) Q):=by
 intro ñ s σ H xs us Q I r h;obtain⟨p,ķ,rfl,hy,q⟩:=h;obtain⟨u,rfl,rx⟩:=gG r;obtain rfl:u=Value.ref p:=rx;obtain⟨z,hS,ps,k1,hD⟩:=(hy.ok I.Iq)
 have T7:=KV.length k1;refine xZ hD hS (by omega) λh' hD' keep=>?_;have Qr:(b8 [] ķ).length<=sizeLine:=by have h1:=bY ķ [];rw[FY]at h1;omega
 refine⟨.ref _,_,I.laid keep (DV _) ?_,rfl,q.at (I.Iq.fresh<|DV _)⟩;exact⟨Qr,Fw.mpr<|FQ I.big,_,k1.merge .nil,hD'⟩
section
variable {K:Ψ}{a b o i:Expr}{ra rb rc:Rx}{rs:Á}{rt ru:Å}{F H:Hp}{σ:St}
abbrev Rt:=En->Bool->Prop
theorem PW.imp (h:PW X e t)(k:∀ σ H Q,t' σ H Q->t σ H Q):PW X e t':=λwh ñ s σ H Q I q=>h wh _ s σ H Q I (k _ _ _ q)
inductive AY (rt ru:Rt) (ε:En):Bool->Prop
 |t {b:Bool}:rt ε true->ru ε b->AY rt ru ε b
 |f:rt ε false->AY rt ru ε false
inductive rOr (rt ru:Rt) (ε:En):Bool->Prop
 |t:rt ε true->rOr rt ru ε true
 |f {b:Bool}:rt ε false->ru ε b->rOr rt ru ε b
inductive rIe (rt:Rt) (ra rb:Rx) (ε:En) (d:D):Prop
 |t:rt ε true->ra ε d->rIe rt ra rb ε d
 |f:rt ε false->rb ε d->rIe rt ra rb ε d
theorem Ag (ha:PT X a (MY rt))(hb:PW X (.BoolOp .And (b::rest) pos) (MY ru)):PW X (.BoolOp .And (a::b::rest) pos) (MY (AY rt ru)):=(AZ ha hb).imp λσ H Q gR=>by
 obtain⟨F,ε,c,S,h,q⟩:=gR
 cases h with
 | t h1 h2=>exact⟨F,ε,true,S,h1,λH1 e1=>⟨_,ε,c,S.step e1,h2,λH2 e2=>q H2<|e1.trans e2⟩⟩
 | f h1=>exact⟨F,ε,false,S,h1,λH1 e1=>q H1 e1⟩
theorem dOr (ha:PT X a (MY rt))(hb:PW X (.BoolOp .Or (b::rest) pos) (MY ru)):PW X (.BoolOp .Or (a::b::rest) pos) (MY (rOr rt ru)):=(U2 ha hb).imp λσ H Q gR=>by
 obtain⟨F,ε,c,S,h,q⟩:=gR
 cases h with
 | t h1=>exact⟨F,ε,true,S,h1,λH1 e1=>q H1 e1⟩
 | f h1 h2=>exact⟨F,ε,false,S,h1,λH1 e1=>⟨_,ε,c,S.step e1,h2,λH2 e2=>q H2<|e1.trans e2⟩⟩
theorem Af (ha:PT X a (MY rt)):PT X (.UnaryOp .Not a pos) (MY λε b=>rt ε (!b)):=(sX ha).imp λσ H Q gR=>by obtain⟨F,ε,c,S,h,q⟩:=gR;exact⟨F,ε,!c,S,h,λH1 e1=>by show Q _ H1;rw[Bool.not_not];exact q H1 e1⟩
theorem Th (hc:PT X c (MY rt))(ha:PE X a (tP ra))(hb:PE X b (tP rb)):PE X (.IfExp c a b pos) (tP (rIe rt ra rb)):=(B8 hc ha hb).imp λσ H Q gR=>by
 obtain⟨F,ε,d,S,h,q⟩:=gR;rcases h with⟨h1,h2⟩|⟨h1,h2⟩
 ·exact⟨F,ε,true,S,h1,λH1 e1=>tP.go (S.step e1) h2 λx H2 e2 _ q2=>q x H2 (e1.trans e2)<|by rwa [au e1 e2]at q2⟩
 ·exact⟨F,ε,false,S,h1,λH1 e1=>tP.go (S.step e1) h2 λx H2 e2 _ q2=>q x H2 (e1.trans e2)<|by rwa [au e1 e2]at q2⟩
inductive AX (ra rb:Rx) (ε:En):D->Prop
 |t {d:D}:ra ε (.bl true)->rb ε d->AX ra rb ε d
 |f:ra ε (.bl false)->AX ra rb ε (.bl false)
inductive Xv (ra:Rx) (ε:En):D->Prop
 |mk {b:Bool}:ra ε (.bl b)->Xv ra ε (.bl (!b))
theorem BW (ha:PE X a (tP ra))(hb:PE X (.BoolOp .And (b::rest) pos) (tP rb)):PE X (.BoolOp .And (a::b::rest) pos) (tP (AX ra rb)):=(xc ha hb).imp λσ H Q gR=>by
 obtain⟨F,ε,d,S,h,q⟩:=gR
 cases h with
 | t h1 h2=>exact tP.go S h1 λx H1 e1 S1 q1=>⟨true,q1,tP.go S1 h2 λx H2 e2 _ q2=>q x H2 (e1.trans e2)<|by rwa [au e1 e2]at q2⟩
 | f h1=>exact tP.go S h1 λx H1 e1 S1 q1=>⟨false,q1,q _ H1 e1 rfl⟩
inductive rCh (f g:D->D->D->Prop) (ra rb rc:Rx) (ε:En):D->Prop
 |t {x y z d:D}:ra ε x->rb ε y->f x y (.bl true)->rc ε z->g y z d->rCh f g ra rb rc ε d
 |f {x y:D}:ra ε x->rb ε y->f x y (.bl false)->rCh f g ra rb rc ε (.bl false)
theorem dCh (h:PE X e (AF r r' (tP ra) (tP rb) (tP rc)))(k:P1 f r)(k':P1 g r'):PE X e (tP (rCh f g ra rb rc)):=h.imp λσ H Q gR=>by
 obtain⟨F,ε,d,S,h,q⟩:=gR
 cases h with
 | t hx hy h1 h2 h3=>exact tP.go S hx λu H1 e1 S1 q1=>tP.go S1 hy λv H2 e2 S2 q2=>k _ _ _ _ u v _ _ S2.le h1 (q1.mono<|ak S1.le) q2 λw H3 e3 q3=>⟨true,q3,tP.go (S2.step e3) h2 λw' H4 e4 S4 q4=>k' _ _ _ _ v w' d Q S4.le h3 ((q2.mono<|ak S2.le).mono<|ak (S2.step e3).le) q4 λx5 H5 e5 q5=>q x5 H5 (e1.trans<|e2.trans (e3.trans<|e4.trans e5)) (by rw[au e1 e2,au (e1.trans e2) e3,au (e1.trans<|e2.trans e3) e4,au (e1.trans<|e2.trans (e3.trans e4)) e5]at q5;exact q5)⟩
 | f hx hy h1=>exact tP.go S hx λu H1 e1 S1 q1=>tP.go S1 hy λv H2 e2 S2 q2=>k _ _ _ _ u v _ _ S2.le h1 (q1.mono<|ak S1.le) q2 λw H3 e3 q3=>⟨false,q3,q _ H3 (e1.trans<|e2.trans e3) rfl⟩
def a1e:En->Option Int->Prop:=λ_ p=>p=none
inductive rPt (r:Rx) (ε:En):Option Int->Prop
 |mk {i:Int}:r ε (.int i)->rPt r ε (some i)
noncomputable def Zy (r:En->Option Int->Prop):TO:=λσ H Q=>∃ F ε p,Sd F σ H ε/\r ε p/\∀ H',f' H H'->Q p H'
theorem PO.imp (h:PO X e t)(k:∀ σ H Q,t' σ H Q->t σ H Q):PO X e t':=λñ s σ H Q I q=>h _ s σ H Q I (k _ _ _ q)
theorem Uu:PO X none (Zy a1e):=SO.imp λσ H Q gR=>by obtain⟨F,ε,p,S,h,q⟩:=gR;cases h;exact q H (f'.refl _)
theorem Ut (h:PE X e (tP ra)):PO X (some e) (Zy (rPt ra)):=(sZ h).imp λσ H Q gR=>by obtain⟨F,ε,p,S,h,q⟩:=gR;obtain @⟨i,h1⟩:=h;exact tP.go S h1 λx H1 e1 _ q1=>⟨i,q1,q H1 e1⟩
noncomputable def wo (l:χ)(lo hi:Ó):χ:=(l.drop (HT.Oy l.length 0 lo)).take (HT.Oy l.length l.length hi - HT.Oy l.length 0 lo)
theorem Ij.drop:∀ {l:χ}{vs:π} (n:Nat),Ij F l vs->Ij F (l.drop n) (vs.drop n)
 | _,_,0,h=>h
 | [],_,_+1,h=>by rw[show _=[] from h];rfl
 | _::_,_,n+1,⟨_,_,q1,_,q3⟩=>by rw[q1];exact Ij.drop n q3
theorem Ij.take:∀ {l:χ}{vs:π} (n:Nat),Ij F l vs->Ij F (l.take n) (vs.take n)
 | _,_,0,_=>rfl
 | [],_,_+1,h=>by rw[show _=[] from h];rfl
 | _::_,_,n+1,⟨_,_,q1,q2,q3⟩=>by rw[q1];exact⟨_,_,rfl,q2,Ij.take n q3⟩
inductive rSl (ra:Rx) (rl rh:En->Option Int->Prop) (ε:En) (d:D):Prop
 |mk {x:D}{l:χ}{p q:Ó}:ra ε x->Sq x l->rl ε p->rh ε q->d=.lst (wo l p q)->rSl ra rl rh ε d
theorem Uv {lo:Option Expr}(ha:PE X a (tP ra))(hl:PO X lo (Zy rl))(hh:PO X hi (Zy rh)):PE X (.Subscript a (.Slice lo hi none p2) pos) (tP (rSl ra rl rh)):=
 (uZ (Xi X.K) ha hl hh).imp λσ H Q ⟨F,ε,d,S,.mk (p:=p) (q:=r) h1 h2 h3 h4 h5,q⟩=>tP.go S h1 λu H1 e1 S1 q1=>⟨_,_,p,S1,h3,λH2 e2=>⟨_,_,r,S1.step e2,h4,λH3 e3=>by obtain⟨ad,vs,rfl,p1,p2⟩:=h2.at q1;have S3:=(S1.step e2).step e3;refine⟨ad,vs,rfl,.inl ((p1.mono<|ak S1.le).mono (ak (S1.step e2).le) |>.mono S3.le),k9 S3.le (λy H4 e4 q4=>q y H4 (e1.trans<|e2.trans (e3.trans e4)) (by rw[au e1 e2,au (e1.trans e2) e3,au (e1.trans<|e2.trans e3) e4]at q4;exact q4)) λy G e z=>?_⟩;rw[h5];refine⟨y,_,rfl,z,?_⟩;unfold wo qf;rw[p2.length];exact ((((p2.mono<|ak S1.le).mono<|ak (S1.step e2).le).mono e).drop _).take _⟩⟩
theorem Ij.look:∀ {n:η}{l:χ}{fs:Í},fs.map (·.1)=n->Ij F l (fs.map (·.2))->(n.zip l).lookup f=some d->∃ v,fs.lookup f=some v/\DR F d v
 | _,[],fs,h1,h2,h3=>by rw[List.zip_nil_right]at h3;cases h3
 | [],_::_,fs,h1,h2,h3=>by cases h3
 | m::n,e::l,[],h1,h2,h3=>by cases h1
 | m::n,e::l,p::fs,h1,⟨v,ws,q1,q2,q3⟩,h3=>by
  rw[DX]at h1 q1;injection h1 with h1 h1';injection q1 with q1 SN;rw[HB,Gk]at h3;rw[show p::fs=(p.1,p.2)::fs from rfl,Gk,h1]
  cases z:f==m with
  | true=>rw[z]at h3;cases h3;exact⟨_,rfl,q1▸q2⟩
  | false=>rw[z]at h3;exact Ij.look h1' (SN▸q3) h3
inductive rFl (Pc:Addr->Prop) (f:Str) (r:Rx) (ε:En) (d:D):Prop
 |mk {C:Addr}{n:η}{l:χ}:r ε (.ins C n l)->Pc C->(n.zip l).lookup f=some d->rFl Pc f r ε d
theorem PH (hP:∀ C,Pc C->LF X.K C/\IE X.K C f)(ha:PE X a (tP ra))(hb:autoParam (attributeBase a f X.env (eval a X.env)=eval a X.env) ŕ):PE X (.Attribute a f pos) (tP (rFl Pc f ra)):=
 (B9 ha hb).imp λσ H Q ⟨F,ε,d,S,.mk (C:=C) h1 h2 h3,q⟩=>tP.go S h1 λx H1 e1 S1 gR=>by obtain⟨ad,dx,fs,ex,p1,p2,p3⟩:=gR;obtain⟨v,v1,v2⟩:=Ij.look p2 p3 h3;exact⟨ad,C,dx,fs,v,ex,S1.le _ _ p1,(hP C h2).1,(hP C h2).2,v1,q v H1 e1 v2⟩
theorem qQ {fs:Í}(h:fs.map (·.1)=n)(hm:m∉n):fs.lookup m=none:=by rw[List.lookup_eq_none_iff];intro p hp;rw[bne_iff_ne];rintro rfl;exact hm (h▸DI.mpr ⟨p,hp,rfl⟩)
variable {k:Nat}{C:Addr}{m:Str}{R:Ä}
inductive ZG (C:Addr) (m:Str) (R:Ä) (r:Rx) (rs:Á) (ε:En) (d:D):Prop
 |mk {n:η}{l ds:χ}:r ε (.ins C n l)->m∉n->rs ε ds->R (.ins C n l::ds) d->ZG C m R r rs ε d
inductive CI (Cs:Addr->Prop) (m:Str) (R:Addr->Ä) (r:Rx) (ε:En) (d:D):Prop
 |mk {C:Addr}{n:η}{l:χ}:r ε (.ins C n l)->Cs C->m∉n->R C [.ins C n l] d->CI Cs m R r ε d
theorem tP.me (h:tP (ZG C m R ra rs) σ H Q):qm C m (Pr R) [] E0 (tP ra) (KU rs) σ H Q:=by obtain⟨F,ε,d,S,@⟨n,l,ds,h1,h2,h3,h4⟩,q⟩:=h;refine tP.go S h1 λx H1 e1 S1 q1=>?_;obtain⟨ad,dx,fs,ex,p1,p2,p3⟩:=id q1;refine⟨ad,dx,fs,ex,S1.le _ _ p1,qQ p2 h2,KU.go S1 h3 λxs H2 e2 S2 q2=>⟨_,.ins C n l::ds,d,S2.le,⟨x,_,rfl,q1.mono<|ak S1.le,by rw[El];exact q2⟩,h4,λy H3 e3 q3=>q y H3 (e1.trans<|e2.trans e3) ?_⟩⟩;rwa [au e1 e2,au (e1.trans e2) e3]at q3
theorem Nq (he:PE X o (tP ra))(Dd:Dm X.prog X.w X.K X.mg X.base k C m ps (Pr R))(hr:IA k X.A)(ha:PA X (e::es) (KU rs))(QQ:autoParam (Ĕ X e es) ŕ)(L':autoParam (Ē X pos es) ŕ)(ht:autoParam (eval (.Call (.Attribute o m apos) (e::es) [] pos) X.env=(do
   let ov <- eval o X.env
   standAt apos.atName
   let (f,first) <- holding [ov] (getMethod ov m pl)
   callWith pos f first (backTo pos (starEach (e::es) X.env)) (backToKw pos (keywordEach [] X.env)))) ŕ):PE X (.Call (.Attribute o m apos) (e::es) [] pos) (tP (ZG C m R ra rs)):=(bE he Dd hr ha QQ L' ht).imp λ_ _ _ h=>tP.me h
theorem Dq {R:Addr->Ä}(he:PE X o (tP ra))(Dd:∀ C,Cs C->Dm X.prog X.w X.K X.mg X.base k C m ps (Pr (R C)))(hr:IA k X.A)(ht:autoParam (eval (.Call (.Attribute o m apos) [] [] pos) X.env=(do
   let ov <- eval o X.env
   standAt apos.atName
   let (f,first) <- holding [ov] (getMethod ov m pl)
   callWith pos f first (backTo pos (starEach [] X.env)) (backToKw pos (keywordEach [] X.env)))) ŕ):PE X (.Call (.Attribute o m apos) [] [] pos) (tP (CI Cs m R ra)):=
 (qz he Dd hr ht).imp λσ H Q ⟨F,ε,d,S,.mk (C:=C) (n:=n) (l:=l) h1 h2 h3 h4,q⟩=>tP.go S h1 λx H1 e1 S1 q1=>by obtain⟨ad,dx,fs,ex,p1,p2,p3⟩:=id q1;exact⟨ad,C,dx,fs,ex,h2,S1.le _ _ p1,qQ p2 h3,_,[.ins C n l],d,S1.le,⟨x,_,rfl,q1,rfl⟩,h4,λy H3 e3 q3=>q y H3 (e1.trans e3)<|by rwa [au e1 e3]at q3⟩
noncomputable def kD:Key->D
 | .inl i=>.int i
 | .inr x=>.str x
abbrev _root_.ι:=List (Key×D)
noncomputable abbrev Jq (ð:ι):D:=.dct (ð.map (·.1)) (ð.map (·.2))
theorem oO (h:DR F (kD y) v):v=kV y:=by cases y <;> exact h
noncomputable def cI (ð:ι)(y:Key):Option D:=(ð.find? λkv=>decide (kv.1=y)).map (·.2)
theorem Ij.val:∀ {ð:ι}{ķ:ξ},ķ.map (·.1)=ð.map (·.1)->Ij F (ð.map (·.2)) (ķ.map (·.2))->(cI ð y=none->cu ķ y=none)/\∀ d,cI ð y=some d->∃ v,cu ķ y=some v/\DR F d v
 | [],[],_,_=>⟨λ_=>rfl,λ_ h=>nomatch h⟩
 | [],_::_,h,_=>nomatch h
 | _::_,[],h,_=>nomatch h
 | p::ð,q::ķ,h,⟨v,ws,q1,q2,q3⟩=>by
  rw[DX,DX]at h;rw[DX]at q1;injection h with h1 h2;injection q1 with q1 SN;have ih:=Ij.val (y:=y) h2<|SN▸q3;unfold cI cu at ih ⊢;rw[EO,EO,h1];by_cases z:p.1=y
  ·rw[DM z];exact⟨(λh=>nomatch h),λd h=>by cases h;exact⟨_,rfl,by show DR F p.2 q.2;rw[q1];exact q2⟩⟩
  ·rw[DQ z];exact ih
inductive Sub:D->D->D->Prop
 |l {x d:D}{l:χ}{i:Int}:Sq x l->O3 l i=some d->Sub x (.int i) d
 |t {d:D}{l:χ}{i:Int}:O3 l i=some d->Sub (.tup l) (.int i) d
 |k {ð:ι}{y:Key}{x d:D}:cI ð y=some d->x=kD y->Sub (Jq ð) x d
theorem Dc (hu:X.A.units+1<cLine):Qy X (λx y H Q=>∃ a v,x=.ref a/\LV H a y (some v)/\Q v H):=by
 intro value slice ñ s σ H x y v u Q I rx ry h hs;obtain⟨a,z,rfl,g,q⟩:=h
 cases rx;have hT:=lW I g;refine DK ?_;refine DK (wpAny_specialOf hT PySem.F.slot_dict_getitem.lookup ?_);have fin:wpAny X.Ę X.A (subscripted slice false (.ref a) u) (λr s₃=>wpAny X.Ę X.A (letTemporaryGo value (.ref a) r >>= λ_=>pure r) (EP X ñ σ Q) X.xe s₃) X.xe s:=by rw[hs];exact wpAny_operating (rR hu I g ry λw' s3 I3 Oe=>DK<|wpAny_letTemporaryGo (DW ⟨z,H,I3,Oe,q⟩))
 first
  | exact DW (DK fin)
  | exact DK _
  | exact DK fin
theorem XH:P1 Sub (λx y H Q=>(CM K x y H Q\/CK K x y H Q)\/∃ a v,x=.ref a/\LV H a y (some v)/\Q v H):=λF H x y u v d Q s z hu hv q=>by
 cases z with
 | l h1 h2=>exact .inl (.inl<|a1u s h1 h2 hu hv q)
 | t h=>exact .inl (.inr<|a1t s h hu hv q)
 | k h e=>
  subst e;obtain⟨ad,ķ,rfl,p1,p2,p3⟩:=hu;obtain⟨w,w1,w2⟩:=(Ij.val p2 p3).2 d h;exact .inr ⟨ad,w,rfl,.inl ⟨ķ,_,p1.mono s,oO hv,w1.symm⟩,tP.at s q w2⟩
theorem dS (hu:X.A.units+1<cLine)(ha:PE X a (tP ra))(hb:PE X b (tP rb))(hs:n8 b:=by exact λ_ _=>rfl):PE X (.Subscript a b pos) (tP (rO Sub ra rb)):=dX (Qy.or (Qy.or yI BC)<|Dc hu) XH ha hb hs
inductive RX (n:Bool) (x y d:D):Prop
 |s:fIn n x y d->RX n x y d
 |k {ð:ι}{z:Key}:y=Jq ð->x=kD z->d=.bl (if n=true then !(cI ð z).isSome else (cI ð z).isSome)->RX n x y d
noncomputable def UW (n:Bool):R2:=λy x H Q=>∃ a o,x=.ref a/\LV H a y o/\Q (.bl (if n=true then !o.isSome else o.isSome)) H
theorem Bi (hu:X.A.units+1<cLine):JT X (compareOp .In) (UW false):=by intro ñ s σ H y x iv u Q I ry rx h;obtain⟨a,ov,ex,g,q⟩:=h;subst ex;obtain rfl:u=Value.ref a:=rx;exact a23 hu I g ry λs3 I3=>⟨.bl _,H,I3,rfl,q⟩
theorem zC (hu:X.A.units+1<cLine):JT X (compareOp .NotIn) (UW true):=by intro ñ s σ H y x iv u Q I ry rx h;obtain⟨a,ov,ex,g,q⟩:=h;subst ex;obtain rfl:u=Value.ref a:=rx;exact Dp hu I g ry λs3 I3=>⟨.bl _,H,I3,rfl,q⟩
theorem Br:P1 (RX n) (λx y H Q=>ZH K n x y H Q\/UW n x y H Q):=λF H x y u v d Q s z hu hv q=>by
 cases z with
 | s h=>exact .inl (a1v F H x y u v d Q s h hu hv q)
 | k e1 e2 hd=>
  subst e1 e2;rename_i ð k;obtain⟨ad,ķ,rfl,p1,p2,p3⟩:=hv;obtain⟨n1,n2⟩:=Ij.val p2 p3;have hs:(cu ķ k).isSome=(cI ð k).isSome:=by
   cases z:cI ð k with
   | none=>rw[n1 z];rfl
   | some d=>obtain⟨w,w1,_⟩:=n2 d z;rw[w1];rfl
  exact .inr ⟨ad,_,rfl,.inl ⟨ķ,k,p1.mono s,oO hu,rfl⟩,tP.at s q (by rw[hd,hs];rfl)⟩
theorem dIn (hu:X.A.units+1<cLine)(ha:PE X a (tP ra))(hb:PE X b (tP rb))(hm:behindInMarks .In b=false:=by with_unfolding_all rfl):PE X (.Compare a [.In] [b] pos) (tP (rO (RX false) ra rb)):=dM (JT.or qD<|Bi hu) Br ha hb hm
theorem TC (hu:X.A.units+1<cLine)(ha:PE X a (tP ra))(hb:PE X b (tP rb))(hm:behindInMarks .In b=false:=by with_unfolding_all rfl):PT X (.Compare a [.In] [b] pos) (MY λε c=>rO (RX false) ra rb ε (.bl c)):=dT (JT.or qD<|Bi hu) Br ha hb hm
theorem Ra (hu:X.A.units+1<cLine)(ha:PE X a (tP ra))(hb:PE X b (tP rb))(hm:behindInMarks .NotIn b=false:=by with_unfolding_all rfl):PT X (.Compare a [.NotIn] [b] pos) (MY λε c=>rO (RX true) ra rb ε (.bl c)):=dT (JT.or tq<|zC hu) Br ha hb hm
inductive DE:D->D->D->Prop
 |i {i j:Int}:DE (.int i) (.int j) (.int (i+j))
 |l {l m:χ}:l.length+m.length<=10000->DE (.lst l) (.lst m) (.lst (l++m))
theorem Qw (ha:PE X a (tP ra))(hb:PE X b (tP rb)):PE X (.BinOp a .Add b pos) (tP (rO DE ra rb)):=dO (JT.or lf yB) (λF H x y u v d Q s z hu hv q=>by
 cases z with
 | i=>exact .inl ⟨_,_,hu,hv,tP.at s q rfl⟩
 | l h=>exact .inr<|XJ F H _ _ u v _ Q s (.mk h) hu hv q) ha hb
end
section
variable {X:Cx}{σ:St}{H:Hp}{d:Addr}{ķ:ξ}
def Fz (X:Cx)(H H2:Hp)(d:Addr)(o:Obj)(ķ:ξ):Prop:=H2 d=some (.frz o (.dK ķ))/\((H d=some (.dK ķ)/\H2=upd H d (.frz o (.dK ķ))/\NF X d)\/H2=H)
theorem Inv.fz2 (I:Inv X ñ σ H s)(hd:Rd H d (.dK ķ))(ho:s.heap.get? d=some ob):∃ H2,Inv X ñ σ H2 s/\Fz X H H2 d ob ķ:=by
 rcases hd with hd|⟨o,hd⟩
 ·exact⟨_,I.freeze hd ho,ag,.inl ⟨hd,rfl,I.nf hd⟩⟩
 ·obtain⟨h1,_⟩:=I.Iq d _ hd;rw[ho]at h1;cases h1;exact⟨H,I,hd,.inr rfl⟩
noncomputable def iD2 (X:Cx)(J:Obj->Addr->It)(tl:TE):TI:=λσ H R=>∃ Q:VK,tl σ H Q/\∀ x H1,Q x H1->∃ d ķ,x=.ref d/\Rd H1 d (.dK ķ)/\∀ o H2,Fz X H1 H2 d o ķ->R (J o d) H2
noncomputable def zW (X:Cx)(tl:TE):TI:=λσ H R=>∃ Q:VK,tl σ H Q/\∀ x H1,Q x H1->∃ a,x=.ref a/\((∃ xs,Il X.K H1 a xs/\R (UA X.K a) H1)\/(∃ xs,Kc X.K H1 a xs/\R (Itt X.K a) H1)\/∃ ķ,Rd H1 a (.dK ķ)/\∀ o H2,Fz X H1 H2 a o ķ->R (Zs o a) H2)
theorem ax (hl:PE X l tl):PI X tg l (zW X tl):=by
 intro ñ s σ H R I h;obtain⟨Q,hq,h⟩:=h;refine Iz (hl _ s σ H _ I hq) λv s1 gR=>?_;obtain⟨x,H1,I1,r1,q1⟩:=gR;obtain⟨a,ex,q⟩:=h x H1 q1;subst ex
 cases r1;have fr:∀ {H2:Hp} (I2:Inv X _ σ H2 s1) (b:Addr),b∈[s1.heap.objs.size]->lI X ñ H2 b:=λI2 b hb=>by
  have e:b=s1.heap.objs.size:=by simpa using hb
  subst e;exact I2.OW (DV _) (I2.Iq.fresh<|DV _)
 rcases q with⟨xs,hq,q⟩|⟨xs,hq,q⟩|⟨ķ,hd,q⟩
 ·obtain⟨its,rv,p,hz⟩:=I1.list hq;exact GP p.isList ⟨s1.heap.objs.size,[s1.heap.objs.size],_,_,H1,rfl,I1.kept λb o e=>DU _ e,qj a _,⟨_,Eb _ rfl,rfl,rfl⟩,fr I1,q⟩
 ·obtain⟨its,rv,p,hz⟩:=I1.tuple hq;exact wpAny_pyIter_tuple p ⟨s1.heap.objs.size,[s1.heap.objs.size],_,_,H1,rfl,I1.kept λb o e=>DU _ e,wM a _,⟨_,Eb _ rfl,rfl,rfl⟩,fr I1,q⟩
 ·obtain⟨z,lo,vs,r,ob,es,ep,ho,c1,c2,c3,c4,c5⟩:=(hd.ok I1.Iq)
  have hsz:vs.length=es.size:=by rw[<- c4.length];simp
  refine wpAny_pyIter_dict lo ⟨ob,es,ho,c1,c2,c3,c4,c5⟩ ?_;rw[hsz];obtain⟨H2,I2,fz⟩:=I1.fz2 hd ho;exact⟨s1.heap.objs.size,[s1.heap.objs.size],_,_,_,rfl,I2.kept λb o e=>DU _ e,ze _ a ob c2,⟨_,Eb _ rfl,rfl,rfl⟩,fr I2,q ob H2 fz⟩
theorem jV (hl:PE X l tl)(ML:autoParam (attributeBase l "values" X.env (eval l X.env)=eval l X.env) ŕ)(MI:autoParam ((apos.endLine==Jg.line)=true) ŕ):PI X tg (.Call (.Attribute l "values" apos) [] [] Jg) (iD2 X WY tl):=by
 intro ñ s σ H R I h;obtain⟨Q,hq,h⟩:=h;refine wpAny_Call_method0_late ML MI (Iz (hl _ s σ H _ I hq) λv s1 gR=>?_);obtain⟨x,H1,I1,r1,q1⟩:=gR;obtain⟨d,ķ,e,hd,q⟩:=h x H1 q1;subst e
 cases r1;obtain⟨z,lo,vs,r,ob,es,ep,ho,c1,c2,c3,c4,c5⟩:=(hd.ok I1.Iq)
 have hsz:vs.length=es.size:=by rw[<- c4.length];simp
 have da:s1.heap.DictAt _ d vs ep:=⟨ob,es,ho,c1,c2,c3,c4,c5⟩
 refine⟨"dict","dict.values",F.plainAttrs_dict,F.slot_dict_values,F.type_dict_values,da.dictOf.typeIs,λa e2=>?_,Ha rfl (PySem.evalArgs_none ?_)⟩
 ·cases e2;exact⟨ob,ho,c1.2.1⟩
 refine call_meetsIn F.slot_dict_values da.dictOf.typeIs F.entry_dict_values (F.args_dict_values_1 _) (meets_dict_values _ d lo) ⟨⟨vs,da.dictOf⟩,?_⟩;obtain⟨H2,I2,fz⟩:=I1.fz2 hd ho;have I2:=I2.kept (t':=s1.toks) (h':=s1.heap.push { cls:=.type "dict_values",data:=.fields #[.ref d] }) λb o e=>DU _ e;refine wpAny_pyIter_values ⟨_,Eb _ rfl,rfl,rfl⟩ (da.push _) ?_;rw[hsz];refine⟨_,[(s1.heap.push { cls:=.type "dict_values",data:=.fields #[.ref d] }).objs.size],_,_,_,rfl,I2.kept λb o e=>DU _ e,zd _ d ob c2,⟨_,Eb _ rfl,rfl,rfl⟩,λb hb=>?_,q ob H2 fz⟩;have e:b=(s1.heap.push { cls:=.type "dict_values",data:=.fields #[.ref d] }).objs.size:=by simpa using hb
 subst e;exact I2.OW (DV _) (I2.Iq.fresh<|DV _)
end
noncomputable def Jp (a:Addr)(o:HO)(F:Hp):Hp:=λb=>if b=a/\F a≠none then some o else F b
section
variable {F:Hp}{a:Addr}{o o':HO}{ķ:ξ}
theorem br (h:b≠a):Jp a o F b=F b:=if_neg λz=>h z.1
theorem c9 (h:F a≠none):Jp a o F a=some o:=if_pos ⟨rfl,h⟩
theorem su (h:F a=none):Jp a o F=F:=by funext b;exact if_neg λz=>z.2 h
theorem cv (s:f' F H):f' (Jp a o F) (Jp a o H):=λb u q=>by
 by_cases z:b=a
 ·subst z;by_cases n:F b=none
  ·rw[su n,n]at q;cases q
  ·rw[c9 n]at q;rw[c9 (λm=>by cases y:F b with
    | none=>exact n y
    | some w=>rw[s _ _ y]at m;cases m)]
   exact q
 ·rw[br z]at q ⊢;exact s _ _ q
theorem Mp:Jp a o F b=none ↔ F b=none:=by
 by_cases z:b=a
 ·subst z;by_cases n:F b=none
  ·rw[su n]
  ·rw[c9 n];exact⟨nofun,λm=>absurd m n⟩
 ·rw[br z]
theorem mQ (h:F a=some o):Jp a o (Jp a o' F)=F:=by
 funext b;by_cases z:b=a
 ·subst z;rw[c9 (by rw[c9 (by rw[h];exact nofun)];exact nofun),h]
 ·rw[br z,br z]
def Rk (o:HO)(ķ:ξ):Prop:=o=.dK ķ\/∃ r,o=.frz r (.dK ķ)
theorem AR (h:F a=some o)(k:Rk o ķ)(k':Rk o' ķ)(hr:Rd F b u)(hu:∀ r w,u≠.frz r w):Rd (Jp a o' F) b u:=by
 by_cases z:b=a
 ·subst z;have:u=.dK ķ:=by
   rcases hr with hr|⟨r,hr⟩
   ·rw[h]at hr;cases hr;rcases k with k|⟨r,k⟩
    ·exact k
    ·exact absurd k (hu _ _)
   ·rw[h]at hr;cases hr;rcases k with k|⟨r,k⟩
    ·cases k
    ·cases k;rfl
  subst this;have e:Jp b o' F b=some o':=c9 (by rw[h];exact nofun);rcases k' with rfl|⟨r,rfl⟩
  ·exact .inl e
  ·exact .inr ⟨r,e⟩
 ·unfold Rd;rw[br z];exact hr
mutual
theorem DR.Jp (h:F a=some o)(k:Rk o ķ)(k':Rk o' ķ):∀ (d:D)(v:V),DR F d v->DR (Jp a o' F) d v
 | .non,_,h=>h
 | .bl _,_,h=>h
 | .int _,_,h=>h
 | .str _,_,h=>h
 | .lst l,_,q=>let ⟨b,vs,q1,q2,q3⟩:=q;⟨b,vs,q1,by rw[br (λz=>by subst z;rw[h]at q2;cases q2;rcases k with k|⟨_,k⟩ <;> cases k)];exact q2,Ij.Jp h k k' l vs q3⟩
 | .scr l,_,q=>let ⟨b,vs,q1,q2,q3⟩:=q;⟨b,vs,q1,AR h k k' q2 λ_ _=>nofun,Ij.Jp h k k' l vs q3⟩
 | .tup l,_,q=>let ⟨b,vs,q1,q2,q3⟩:=q;⟨b,vs,q1,by rw[br (λz=>by subst z;rw[h]at q2;cases q2;rcases k with k|⟨_,k⟩ <;> cases k)];exact q2,Ij.Jp h k k' l vs q3⟩
 | .dct _ l,_,q=>let ⟨b,vs,q1,q2,q3,q4⟩:=q;⟨b,vs,q1,AR h k k' q2 λ_ _=>nofun,q3,Ij.Jp h k k' l _ q4⟩
 | .ins _ _ l,_,q=>let ⟨b,dx,vs,q1,q2,q3,q4⟩:=q;⟨b,dx,vs,q1,by rw[br (λz=>by subst z;rw[h]at q2;cases q2;rcases k with k|⟨_,k⟩ <;> cases k)];exact q2,q3,Ij.Jp h k k' l _ q4⟩
theorem Ij.Jp (h:F a=some o)(k:Rk o ķ)(k':Rk o' ķ):∀ (l:List D)(vs:List V),Ij F l vs->Ij (Jp a o' F) l vs
 | [],_,h=>h
 | d::l,_,q=>let ⟨v,ws,q1,q2,q3⟩:=q;⟨v,ws,q1,DR.Jp h k k' d v q2,Ij.Jp h k k' l ws q3⟩
end
theorem jM (h:H a=some o):upd H a o'=Jp a o' H:=by
 funext b;by_cases z:b=a
 ·subst z;rw[ag,c9 (by rw[h];exact nofun)]
 ·rw[ab z,br z]
theorem Sd.Jp (S:Sd F σ H ε)(h:F a=some o)(k:Rk o ķ)(k':Rk o' ķ):Sd (L2.Jp a o' F) σ (L2.Jp a o' H) ε:=⟨cv S.le,S.len,λi d q=>let ⟨v,x,y⟩:=S.rd i d q;⟨v,x,y.Jp h k k'⟩⟩
noncomputable def pK (kv:Key×D):D:=kD kv.1
theorem BE {ð:ι}(h:F a=some (.frz ob (.dK ķ)))(h1:ķ.map (·.1)=ð.map (·.1)):Qz F (Zs ob a) (ð.map pK):=
 ⟨λH i d s e=>by
  rw[DN]at e
  cases z:ð[i]? with
  | none=>rw[z]at e;cases e
  | some kd=>
   rw[z]at e;cases e;have:(ķ.map (·.1))[i]?=some kd.1:=by rw[h1,DN,z];rfl
   rw[DN]at this
   cases y:ķ[i]? with
   | none=>rw[y]at this;cases this
   | some kv=>
    rw[y]at this;have e1:kv.1=kd.1:=Option.some.inj this;refine⟨⟨ķ,kv,s _ _ h,y⟩,λx H' ⟨e2,e3⟩=>⟨e2▸f'.refl _,?_⟩⟩;obtain⟨kv',e4,rfl⟩:=e3 ķ<|s _ _ h;rw[y]at e4;cases e4;rw[e1];unfold pK;cases kd.1 <;> rfl,λH i s z=>⟨ķ,s _ _ h,by have:=congrArg List.length h1;simp at this z;omega⟩⟩
theorem Y2 {ð:ι}(h:F a=some (.frz ob (.dK ķ)))(h2:Ij F (ð.map (·.2)) (ķ.map (·.2))):Qz F (WY ob a) (ð.map (·.2)):=
 ⟨λH i d s e=>by
  obtain⟨v,e1,e2⟩:=h2.at e;rw[DN]at e1
  cases y:ķ[i]? with
  | none=>rw[y]at e1;cases e1
  | some kv=>
   rw[y]at e1;cases e1;refine⟨⟨ķ,kv,s _ _ h,y⟩,λx H' ⟨N5,e3⟩=>⟨N5▸f'.refl _,?_⟩⟩;obtain⟨kv',e4,rfl⟩:=e3 ķ<|s _ _ h;rw[y]at e4;cases e4;subst N5;exact e2.mono<|ak s,λH i s z=>⟨ķ,s _ _ h,by have:=h2.length;simp at this z;omega⟩⟩
end
def DC (J:Obj->Addr->It)(pr:Key×D->D):Prop:=∀ {F:Hp}{a:Addr}{ob:Obj}{ķ:ξ}{ð:ι},F a=some (.frz ob (.dK ķ))->ķ.map (·.1)=ð.map (·.1)->Ij F (ð.map (·.2)) (ķ.map (·.2))->Qz F (J ob a) (ð.map pr)
theorem vL:DC Zs pK:=λh h1 _=>BE h h1
theorem vK:DC WY (·.2):=λh _ h2=>Y2 h h2
inductive Itm:D->List D->Prop
 |l {x:D}{l:χ}:Sq x l->Itm x l
 |t {l:χ}:Itm (.tup l) l
 |k {ð:ι}:Itm (Jq ð) (ð.map pK)
inductive Wx (r:Rx) (ε:En) (l:χ):Prop
 |mk {d:D}:r ε d->Itm d l->Wx r ε l
inductive rVs (r:Rx) (ε:En) (l:χ):Prop
 |mk {ð:ι}:r ε (Jq ð)->l=ð.map (·.2)->rVs r ε l
section
variable {X:Cx}{K:Ψ}
theorem Ub (h:F a=some (.tup vs))(q:Ij F l vs):Qz F (Itt K a) l:=
 ⟨λH i d s e=>let ⟨v,e1,e2⟩:=q.at e;⟨⟨vs,v,Kc.of<|s _ _ h,e1⟩,λx H' ⟨z,y⟩=>⟨z▸f'.refl _,by have:=y vs<|Kc.of (s _ _ h);rw[e1]at this;cases this;exact e2.mono<|ak s⟩⟩,λH i s z=>⟨vs,Kc.of<|s _ _ h,by rw[q.length];exact z⟩⟩
noncomputable def SH (X:Cx)(Q:VK):VK:=λv H'=>(∃ a o ķ,NF X a/\H' a=some (.frz o (.dK ķ))/\Q v (upd H' a (.dK ķ)))\/Q v H'
theorem yr {ð:ι}{os:List (Option D)}(hJ:DC J pr)(S1:Sd F1 σ H1 ε)(p1:Rd F1 a (.dK ķ))(p2:ķ.map (·.1)=ð.map (·.1))(p3:Ij F1 (ð.map (·.2)) (ķ.map (·.2)))(fz:Fz X H1 H2 a o ķ)(h2:(ð.map pr).length<=1000)(h3:Paired (Tn n (js.map λj=>(ε[j]?).join) rt re) (ð.map pr) os)(q:∀ b H4,f' H1 H4->DR (grow F1 H1 H4) (.lst (os.filterMap id)) (.ref b)->Q (.ref b) H4):gC (mG n) js (oR K n) (MY rt) (tP re) σ (λb H'=>SH X Q (.ref b) H') (J o a) H2:=by
 obtain⟨f1,f2⟩:=fz;rcases p1 with p1|⟨r,p1⟩
 ·have QY:=S1.le _ _ p1;rcases f2 with⟨_,f2,nf⟩|f2
  ·have S2:=S1.Jp p1 (.inl rfl)<|.inr ⟨o,rfl⟩;have eF:Jp a _ F1 a=some (.frz o<|.dK ķ):=c9 (by rw[p1];exact nofun);rw[jM QY]at f2;subst f2;refine qv S2 (hJ eF p2<|p3.Jp p1 (.inl rfl) (.inr ⟨o,rfl⟩)) h2 h3 λb H3 vs e3 hb hv hd=>.inl ⟨a,o,ķ,nf,e3 _ _ f1,?_⟩;have hH3:=e3 _ _ f1;rw[jM hH3];have e4:f' H1 (Jp a (.dK ķ) H3):=by have:=cv (a:=a) (o:=.dK ķ) e3;rwa [mQ QY]at this
   refine q _ _ e4 (((k8 hb hv hd).Jp (ak S2.le _ _ eF) (.inr ⟨o,rfl⟩)<|.inl rfl).mono λc w y=>?_);by_cases z:c=a
   ·subst z;rw[c9 (by rw[ak S2.le _ _ eF];exact nofun)]at y;exact ak S1.le _ _ (p1.trans y)
   ·rw[br z]at y;unfold grow at y ⊢;rw[br z,br z]at y;rw[br z];exact y
  ·rw[f2,QY]at f1;cases f1
 ·have QY:=S1.le _ _ p1;rcases f2 with⟨f2,_⟩|f2
  ·rw[QY]at f2;cases f2
  ·subst f2;rw[QY]at f1;cases f1;exact qv S1 (hJ p1 p2 p3) h2 h3 λb H3 vs e3 hb hv hd=>.inr (q _ H3 e3<|k8 hb hv hd)
theorem PE.SH {e:Expr}{t t':TE} (h:PE X e t) (k:∀ σ H Q,t' σ H Q->t σ H (SH X Q)):PE X e t':=λñ s σ H Q I q=>Iz (h ñ s σ H _ I<|k _ _ _ q) λu s' gR=>by
 obtain⟨v,H',I',r',z⟩:=gR;rcases z with⟨a,o,ķ,nf,e,q⟩|q
 ·exact⟨v,_,I'.UG e nf,r',q⟩
 ·exact⟨v,H',I',r',q⟩
theorem dLv (n:Nat)(hc:X.calm=true)(S:bv X scope (mG n) js N')(hi:PI X tg iter (iD2 X WY (tP rd)))(hg:∀ cells C s H fp,PG (aB X scope N' cells C s H fp) tg (oR X.K n))(ht:∀ cells C s H fp,Me (aB X scope N' cells C s H fp) ifs (MY rt))(he:∀ cells C s H fp,PE (aB X scope N' cells C s H fp) elt (tP re))(hs:autoParam (ĕ X iter) ŏ):PE X (.ListComp elt [⟨tg,iter,ifs,0⟩] scope pos) (tP (rL n js (rVs rd) rt re)):=
 (eO hc S hi hg ht he hs).SH λσ H Q ⟨F,ε,d,S,.mk (.mk h1 hl) h2 h3 h4,q⟩=>by subst hl h4;exact⟨λx H1=>f' H H1/\DR _ _ x,tP.go S h1 λx H1 e1 _ q1=>⟨e1,q1⟩,λx H1 gR=>(by obtain⟨e1,a,ķ,ex,p1,p2,p3⟩:=gR;exact⟨a,ķ,ex,p1.mono (S.step e1).le,λo H2 fz=>yr vK (S.step e1) p1 p2 p3 fz h2 h3 λb H4 e4 y=>q _ H4 (e1.trans e4)<|by rwa [au e1 e4]at y⟩)⟩
theorem AW (h:tP (rL n js (Wx rd) rt re) σ H Q):jN (zW X (tP rd)) (mG n) js (oR K n) (MY rt) (tP re) σ H (SH X Q):=by
 obtain⟨F,ε,d,S,@⟨l,os,@⟨c,h1,hl⟩,h2,h3,h4⟩,q⟩:=h;subst h4;refine⟨λx H1=>f' H H1/\DR _ c x,tP.go S h1 λx H1 e1 _ q1=>⟨e1,q1⟩,λx H1 gR=>?_⟩;obtain⟨e1,hx⟩:=gR;have S1:=S.step e1;have fin:∀ b H4,f' H1 H4->DR (grow _ H1 H4) _ _->Q (.ref b) H4:=λb H4 e4 y=>q _ H4 (e1.trans e4) (by rwa [au e1 e4]at y)
 cases hl with
 | l hl=>
  obtain⟨a,vs,ex,ha,hv⟩:=hl.at hx;exact⟨a,ex,.inl ⟨vs,.inl<|ha.mono S1.le,qv S1 (BD ha hv) h2 h3 λb H3 vs e3 hb hv hd=>.inr<|fin b H3 e3 (k8 hb hv hd)⟩⟩
 | t=>
  obtain⟨a,vs,ex,ha,hv⟩:=hx;exact⟨a,ex,.inr<|.inl ⟨vs,Kc.of<|S1.le _ _ ha,qv S1 (Ub ha hv) h2 h3 λb H3 vs e3 hb hv hd=>.inr<|fin b H3 e3 (k8 hb hv hd)⟩⟩
 | k=>
  obtain⟨a,ķ,ex,p1,p2,p3⟩:=hx;exact⟨a,ex,.inr<|.inr ⟨ķ,p1.mono S1.le,λo H2 fz=>yr vL S1 p1 p2 p3 fz h2 h3 fin⟩⟩
theorem Od (n:Nat)(hc:X.calm=true)(S:bv X scope (mG n) js N')(hi:PI X tg iter (zW X (tP rd)))(hg:∀ cells C s H fp,PG (aB X scope N' cells C s H fp) tg (oR X.K n))(ht:∀ cells C s H fp,Me (aB X scope N' cells C s H fp) ifs (MY rt))(he:∀ cells C s H fp,PE (aB X scope N' cells C s H fp) elt (tP re))(hs:autoParam (ĕ X iter) ŏ):PE X (.ListComp elt [⟨tg,iter,ifs,0⟩] scope pos) (tP (rL n js (Wx rd) rt re)):=(eO hc S hi hg ht he hs).SH λ_ _ _ h=>AW h
end
theorem vH:typeLookup (.type "zip") "keys"=pure none:=by rw[typeLookup_type,builtinLookup_eq_fast];kernel_rfl
theorem kK:typeLookup (.type "zip") "__getattr__"=pure none:=by rw[typeLookup_type,builtinLookup_eq_fast];kernel_rfl
theorem gA:entryFor table "zip.__getattribute__"=some Builtin.«object.__getattribute__»:=
 entryFor_alias (id':="object.__getattribute__") (by kernel_rfl) (by decide +kernel) (by decide +kernel) (by kernel_rfl)
theorem oF (a:Addr)(vs:Ò)(name:Str)(u:Tok)(a4l:typeLookup (.type "zip") name=pure none)(Yp:(["__module__","__name__","__qualname__","__doc__","__annotations__"]:η).contains name=false)(hsz:name.length+100<=sizeLine:=by size_fits):
  Meets (Builtin.«object.__getattribute__» ⟨[.ref a,.str name u],[]⟩) (λA R s=>s.heap.get? a=some { cls:=.type "zip",dict:=none,data:=.fields vs,slots:=#[] }/\raisesAttr (.ref a) name A R s):=
 Meets.of_wp λprog w A R s hs=>by
  obtain⟨hp,g,d,tk,os⟩:=s;obtain⟨hx,hs⟩:=hs;repeat (any_goals (first|assumption|wp_step))
  simp only[Yp,Gu,GR];repeat (any_goals (first|assumption|wp_step))
  exact wpAny_raiseAttrError hs.1 hs.2 (attrMsg_fits (by decide +kernel) hsz)
theorem wK (hx:s.heap.get? a=some { cls:=.type "zip",dict:=none,data:=.fields vs,slots:=#[] })(hA:A.handled=none)(h:∀ h' tk e,Heap.NewExcOf s.heap h' e "AttributeError"->Q none { s with heap:=h',toks:=tk }):wpAny (model prog w) A (getAttr? (.ref a) "keys") Q E s:=by
 obtain⟨hp,g,d,tk,os⟩:=s
 have hT:∀ X8,(⟨hp,g,d,X8,os⟩:Ê).TypeIs (.ref a) "zip":=λ_=>⟨_,hx,rfl⟩
 have f1:=sub_AttributeError
 have f3:=F.slot_zip_getattribute.lookup
 have f4:=F.slot_zip_getattribute.bind (.ref a)
 have f5:=kK
 unfold getAttr? getAttrBy? getAttrBy
 repeat (any_goals (first|assumption|exact hT _|((with_reducible show wpAny _ _ (call (Value.builtin "zip.__getattribute__") _ _) _ _ _);refine Hz F.slot_zip_getattribute (hT _) gA (F.args_zip_getattribute_2 _ _) (oF a vs "keys" _ vH (by decide) (by size_fits)) ⟨hx,hA,λh' X8 e QO=>?_⟩)|wp_step))
 obtain⟨t',u',he⟩:=QO.there
 show wpAny _ _ (getattributeRaised _ _ _ _ _ _ _) _ _ _
 unfold getattributeRaised
 repeat (any_goals (first|assumption|wp_step))
 exact h _ _ _ QO.of
theorem uz (ho:s.heap.get? a=some o)(h:Q (some o) s):wpAny (model prog w) A (loadIfAlive a) Q E s:=λΓ p _=>by unfold loadIfAlive;rw[Sem.wp_loadIfAlive,ho];exact (Sem.wp_pure ..).mpr h
abbrev lH (h:Heap)(z TI TO:Addr)(T:Nat)(b:Bool):Prop:=h.get? z=some { cls:=.type "zip",dict:=none,data:=.fields #[rawInt T,.bool b,.bool false,.ref TI,.ref TO],slots:=#[] }
theorem uy {TI TO:Addr}(hz:lH s.heap z TI TO T b)(hT:s.heap.get? T=some oT)(h:∀ h',lH h' z TI TO T true->Heap.SameBut z s.heap h'->Q false { s with heap:=h' }):
  wpAny (model prog w) A (Builtin.SmallTypes.ownedTupleIsFree (.ref z)) Q E s:=by
 refine DK (HF hz rfl rfl ?_);refine DK (uz hT ?_);refine DK (HF hz rfl rfl ?_)
 cases b with
 | true=>exact DW (h _ hz ⟨rfl,λ_ _=>rfl⟩)
 | false=>exact DK (wpAny_setField_rec hz (by simp) λh₁ hz₁ hs₁=>DW<|h h₁ hz₁ hs₁)
theorem z9 {TI TO:Addr}(D:ZipApart z TI TO i1 i2 l1 l2)(hz:lH s.heap z TI TO T b)(hT:s.heap.get? T=some oT)(Q4:IsPair s.heap TI (.ref i1) (.ref i2))(h1:s.heap.IsListIter i1 l1 k1)(h2:s.heap.IsListIter i2 l2 k2)(MU:s.heap.IsList l1 xs)(OT:s.heap.IsList l2 ys)(hx:xs[k1]?=some x)(hy:ys[k2]?=some y)(hQ:∀ h',lH h' z TI TO T true->h'.IsListIter i1 l1 (k1+1)->h'.IsListIter i2 l2 (k2+1)->IsPair h' s.heap.objs.size x y->h'.objs.size=s.heap.objs.size+1->
   (∀ c o,c≠z->c≠i1->c≠i2->s.heap.get? c=some o->h'.get? c=some o)->Q (some (.ref s.heap.objs.size)) { s with heap:=h' }):
  wpAny (model prog w) A (pyNext (.ref z)) Q E s:=by
 have YI:s.TypeIs (.ref z) "zip":=⟨_,hz,rfl⟩
 refine DK (wpAny_attempt<|Gi YI F.slot_zip_next (GH F.slot_zip_next YI F.entry_zip_next ?_<|F.args_zip_next_1 _));show wpAny _ _ (field _ 2 >>= _) _ _ _;refine DK (HF hz rfl rfl ?_);refine DK (HF hz rfl rfl ?_);refine DK (wpAny_seqItems Q4 rfl ?_);refine DK (uy hz hT λh₁ hz₁ hs₁=>?_);refine DK ?_;refine DK<|DK (Fn ?_);refine DK (wpAny_nextOf_list_item (h1.extBut hs₁.extBut D.i1z) (MU.extBut hs₁.extBut D.l1z) hx λh₂ h1₂ hs₂=>DW ?_);refine DW ?_;refine DK<|DK (Fn ?_);refine DK (wpAny_nextOf_list_item ((h2.extBut hs₁.extBut D.i2z).extBut hs₂.extBut D.i12.symm) ((OT.extBut hs₁.extBut D.l2z).extBut hs₂.extBut D.l2i1) hy λh₃ h2₃ hs₃=>DW ?_);refine DW (DW ?_);refine DK (wpAny_newTuple ?_ (by show 2<=sizeLine;decide));have e3:h₃.objs.size=s.heap.objs.size:=by rw[hs₃.1,hs₂.1,hs₁.1]
 refine DW ⟨_,rfl,?_⟩;refine DW ?_;have kp:∀ c o,c≠z->c≠i1->c≠i2->s.heap.get? c=some o->(h₃.push { cls:=.type "tuple",data:=.seq #[x,y] }).get? c=some o:=λc o c1 c2 c3 e=>DU _<|hs₃.extBut _ _ c3 (hs₂.extBut _ _ c2<|hs₁.extBut _ _ c1 e);have up:∀ c o,h₃.get? c=some o->(h₃.push { cls:=.type "tuple",data:=.seq #[x,y] }).get? c=some o:=λc o e=>DU _ e;have hn:(h₃.push { cls:=.type "tuple",data:=.seq #[x,y] }).get? h₃.objs.size=some { cls:=.type "tuple",data:=.seq #[x,y] }:=Eb _ rfl;rw[e3]at hn ⊢;exact hQ _ (up _ _<|hs₃.extBut _ _ D.i2z.symm (hs₂.extBut _ _ D.i1z.symm hz₁)) ((h1₂.extBut hs₃.extBut D.i12).at λo e=>up _ o e) (h2₃.at λo e=>up _ o e) hn (by rw[GG,e3]) kp
theorem Au {TI TO:Addr}(hh:A.handled=none)(D:ZipApart z TI TO i1 i2 l1 l2)(hz:lH s.heap z TI TO T b)(hT:s.heap.get? T=some oT)(Q4:IsPair s.heap TI (.ref i1) (.ref i2))(h1:s.heap.IsListIter i1 l1 k1)(MU:s.heap.IsList l1 xs)(hx:xs[k1]?=none)(hQ:∀ h',(∀ c o,c≠z->c≠i1->s.heap.get? c=some o->h'.get? c=some o)->Q none { s with heap:=h' }):
  wpAny (model prog w) A (pyNext (.ref z)) Q E s:=by
 have YI:s.TypeIs (.ref z) "zip":=⟨_,hz,rfl⟩
 refine DK (wpAny_attempt<|Gi YI F.slot_zip_next (GH F.slot_zip_next YI F.entry_zip_next ?_<|F.args_zip_next_1 _));show wpAny _ _ (field _ 2 >>= _) _ _ _;refine DK (HF hz rfl rfl ?_);refine DK (HF hz rfl rfl ?_);refine DK (wpAny_seqItems Q4 rfl ?_);refine DK (uy hz hT λh₁ hz₁ hs₁=>?_);refine DK ?_;refine DK<|DK (Fn ?_);refine DK (wpAny_nextOf_list_end hh (h1.extBut hs₁.extBut D.i1z) (MU.extBut hs₁.extBut D.l1z) hx λh₂ e hs₂ he=>?_);obtain⟨o,ho,hc⟩:=he;refine DK (wpAny_isInstance ⟨o,ho,hc⟩ isSubtype_stop ?_);exact DW (hQ _ λc o c1 c2 e=>hs₂ _ _ c2<|hs₁.extBut _ _ c1 e)
structure ZS (h:Heap) (z TI TO i1 i2 l1 l2 d:Addr) (k:Nat):Prop where
 zok:(IsZip h z TI TO .none/\∃ a b,IsPair h TO a b) \/ ∃ T b o,lH h z TI TO T b/\h.get? T=some o/\T≠z/\T≠TO/\T≠i1/\T≠i2/\T≠d
 Q4:IsPair h TI (.ref i1) (.ref i2)
 h1:h.IsListIter i1 l1 k
 h2:h.IsListIter i2 l2 k
theorem wJ {TI TO:Addr}(D:ZipApart z TI TO i1 i2 l1 l2)(Z:ZS s.heap z TI TO i1 i2 l1 l2 d k)(hd:d<s.heap.objs.size)(MU:s.heap.IsList l1 xs)(OT:s.heap.IsList l2 ys)(hx:xs[k]?=some x)(hy:ys[k]?=some y)(hQ:∀ h',ZS h' z TI TO i1 i2 l1 l2 d (k+1)->IsPair h' s.heap.objs.size x y->(∀ c o,c≠z->c≠TO->c≠i1->c≠i2->s.heap.get? c=some o->h'.get? c=some o)->Q (some (.ref s.heap.objs.size)) { s with heap:=h' }):
  wpAny (model prog w) A (pyNext (.ref z)) Q E s:=by
 obtain⟨hz,Q4,h1,h2⟩:=Z;have zl:∀ {c:Addr}{o:Obj},s.heap.get? c=some o->s.heap.objs.size≠c:=λe=>FQ<|E8 e;obtain⟨o1,e1,_⟩:=id h1;obtain⟨o2,e2,_⟩:=id h2;rcases hz with⟨hz,a,b,VW⟩|⟨T,b,o,hz,hT,t1,t2,t3,t4,t5⟩
 ·exact wpAny_pyNext_zip_item D hz Q4 VW h1 h2 MU OT hx hy λh' a1 a2 a3 a4 a5 a6 a7=>hQ h' ⟨.inr ⟨_,false,_,a1,a5,zl hz,zl VW,zl e1,zl e2,FQ hd⟩,a7 _ _ D.TIz D.TITO D.TIi1 D.TIi2 Q4,a3,a4⟩ a5 a7
 ·exact z9 D hz hT Q4 h1 h2 MU OT hx hy λh' a1 a3 a4 a5 a6 a7=>hQ h' ⟨.inr ⟨T,true,o,a1,a7 _ _ t1 t3 t4 hT,t1,t2,t3,t4,t5⟩,a7 _ _ D.TIz D.TIi1 D.TIi2 Q4,a3,a4⟩ a5 λc o c1 _ c3 c4 e=>a7 c o c1 c3 c4 e
theorem z8 {TI TO:Addr}(hh:A.handled=none)(D:ZipApart z TI TO i1 i2 l1 l2)(Z:ZS s.heap z TI TO i1 i2 l1 l2 d k)(MU:s.heap.IsList l1 xs)(OT:s.heap.IsList l2 ys)(hx:xs[k]?=none)(hQ:∀ h',(∀ c o,c≠z->c≠TO->c≠i1->c≠i2->s.heap.get? c=some o->h'.get? c=some o)->Q none { s with heap:=h' }):
  wpAny (model prog w) A (pyNext (.ref z)) Q E s:=by
 obtain⟨hz,Q4,h1,h2⟩:=Z;rcases hz with⟨hz,a,b,VW⟩|⟨T,b,o,hz,hT,_⟩
 ·exact wpAny_pyNext_zip_end hh D hz Q4 VW h1 h2 MU OT (.inl hx) hQ
 ·exact Au hh D hz hT Q4 h1 MU hx λh' kk=>hQ h' λc o c1 _ c3 _ e=>kk c o c1 c3 e
section
variable {prog:É}{w:World}{κ:Type}[DecidableEq κ]{knd:KeyKind prog w κ}
def Cj (knd:KeyKind prog w κ)(xs ys:Ò)(ps:List (κ×Value)):Prop:=xs.size=ps.length/\∀ (i:Nat) p,ps[i]?=some p->∃ u,xs[i]?=some u/\ys[i]?=some p.2/\knd.is p.1 u=true
theorem X0 {TI TO:Addr}{ps:List (κ×Value)}(hh:A.handled=none)(Sg:ps.length<=1000)(D:ZipApart z TI TO i1 i2 l1 l2)(hp:Cj knd xs ys ps)(nd:d≠z/\d≠TI/\d≠TO/\d≠i1/\d≠i2/\d≠l1/\d≠l2)(R:Result->Shared->Prop):
  ∀ (n i:Nat)(s:Ê),n=ps.length - i->i<=ps.length->ZS s.heap z TI TO i1 i2 l1 l2 d i->s.heap.IsList l1 xs->s.heap.IsList l2 ys->s.heap.DictOf knd d (merged [] (ps.take i))->
   (∀ h' tk,h'.DictOf knd d (merged [] ps)->(∀ b o,b≠d->b≠z->b≠TO->b≠i1->b≠i2->s.heap.get? b=some o->h'.get? b=some o)->R (.ok (.ret .none)) { s with heap:=h',toks:=tk })->
   codeAny (model prog w) A (.builtin "dict.update.loop" ⟨[.ref d,.ref z,rawInt i,.none],[]⟩) R s:=by
 obtain⟨dz,dTI,dTO,di1,di2,dl1,dl2⟩:=nd;have lk:∀ {h h':Heap}{l:Addr}{vs:Ò},h.IsList l vs->(∀ o,h.get? l=some o->h'.get? l=some o)->h'.IsList l vs:=λgR k=>by obtain⟨o,ho,r⟩:=gR;exact⟨o,k o ho,r⟩
 intro n
 induction n with
 | zero=>
  intro i s hn hi Z MU OT hd h;have ei:i=ps.length:=by omega
  refine codeAny_builtin eX ?_;refine DK (z8 hh D Z MU OT (Array.getElem?_eq_none (by rw[hp.1];omega)) λh' ext=>?_);obtain⟨o,es,ep,ho,r⟩:=hd;exact DK (DW<|DW (h h' _ ⟨o,es,ep,ext d o dz dTO di1 di2 ho,by rw[ei,Et]at r;exact r⟩ λb o _ b1 b2 b3 b4 hb=>ext b o b1 b2 b3 b4 hb))
 | succ n ih=>
  intro i s hn hi Z MU OT hd h;have Kb:i<ps.length:=by omega
  obtain⟨p,ep⟩:∃ p,ps[i]?=some p:=⟨_,DF Kb⟩
  obtain⟨u,ex,ey,hk⟩:=hp.2 i p ep;refine codeAny_builtin eX ?_;have hdl:d<s.heap.objs.size:=by obtain⟨o,_,_,ho,_⟩:=hd;exact E8 ho
  refine DK (wJ D Z hdl MU OT ex ey λh1 Z1 ht MH=>?_);have Si:h1.DictOf knd d (merged []<|ps.take i):=by obtain⟨o,es,ep,ho,r⟩:=hd;exact⟨o,es,ep,MH d o dz dTO di1 di2 ho,r⟩
  refine DK (Fn<|DK (wpAny_tryCatch ?_));refine DK (wpAny_typeOf ⟨_,ht,rfl⟩ ?_);refine DK<|wpAny_seqItems ht rfl (DW ?_);have Ys:(merged []<|ps.take i).length<=sizeLine:=by have h1:=merged_length_le ([])<|ps.take i;rw[E4]at h1;have h2:sizeLine=2 ^ 24:=rfl;simp only[FY]at h1;omega
  refine Fn (wpAny_dictSet_pairs hk Si λh2 hd2 sb2=>?_);have JQ:∀ b o,b≠d->h1.get? b=some o->h2.get? b=some o:=λb o hb e=>(sb2.2 b hb).trans e;refine DW ⟨HD _<|by decide +kernel,?_⟩;refine ih (i+1) { s with heap:=h2,toks:=s.toks+1 } (by omega) (by omega) ?_ (lk MU λo e=>JQ _ o dl1.symm<|MH _ o D.l1z D.l1TO D.l1i1 D.l1i2 e) (lk OT λo e=>JQ _ o dl2.symm<|MH _ o D.l2z D.l2TO D.l2i1 D.l2i2 e) ?_ λh' tk h3 h4=>h h' tk h3 λb o b0 b1 b2 b3 b4 hb=>h4 b o b0 b1 b2 b3 b4 (JQ b o b0<|MH b o b1 b2 b3 b4 hb)
  ·obtain⟨zk,q1,q2,q3⟩:=Z1;refine⟨?_,JQ _ _ dTI.symm q1,q2.at λo e=>JQ _ o di1.symm e,q3.at λo e=>JQ _ o di2.symm e⟩;rcases zk with⟨a1,a,b,a2⟩|⟨T,b,o,a1,a2,t1,t2,t3,t4,t5⟩
   ·exact .inl ⟨JQ _ _ dz.symm a1,a,b,JQ _ _ dTO.symm a2⟩
   ·exact .inr ⟨T,b,o,JQ _ _ dz.symm a1,JQ _ _ t5 a2,t1,t2,t3,t4,t5⟩
  ·rw[merged_take_succ _ _ i p ep];exact hd2
theorem ww {TI TO:Addr}{ps:List (κ×Value)}(hh:A.handled=none)(D:ZipApart z TI TO i1 i2 l1 l2)(hz:IsZip s.heap z TI TO .none)(Q4:IsPair s.heap TI (.ref i1) (.ref i2))(VW:IsPair s.heap TO .none .none)(h1:s.heap.IsListIter i1 l1 0)(h2:s.heap.IsListIter i2 l2 0)(MU:s.heap.IsList l1 xs)(OT:s.heap.IsList l2 ys)(hp:Cj knd xs ys ps)(Sg:ps.length<=1000)(h:∀ h' tk,h'.DictOf knd s.heap.objs.size (merged [] ps)->(∀ b o,b≠z->b≠TO->b≠i1->b≠i2->s.heap.get? b=some o->h'.get? b=some o)->Q (.ref s.heap.objs.size) { s with heap:=h',toks:=tk }):
  wpAny (model prog w) A (call (.type "dict") [.ref z]) Q E s:=by
 have ls:∀ {c:Addr}{o:Obj},s.heap.get? c=some o->s.heap.objs.size≠c:=λe=>FQ<|E8 e;refine callType_codes (Q₁:=λobj s₁=>obj=.ref s.heap.objs.size/\s₁={ s with heap:=s.heap.push { cls:=.type "dict",data:=.dict #[] } }) F.kt_called_dict (F.kt_typeCall_dict_1 _) F.entry_dict_init (kt_code_dict_new _ ⟨rfl,rfl⟩) ?_;rintro obj s₁ ⟨rfl,rfl⟩;have Ka:(s.heap.push { cls:=.type "dict",data:=.dict #[] }).DictOf knd _ []:=Heap.DictOf.new _;have hz':=DU { cls:=.type "dict",data:=.dict #[] } hz;refine⟨Ka.typeIs,F.args_dict_init_2 _ _,?_⟩;refine DK ?_;refine DK (Hb Ka.typeIs ?_);refine DW ?_;refine DK (wpAny_typeOf ⟨_,hz',rfl⟩ ?_);refine DK (wK hz' hh λg1 X7 e1 ne1=>?_);have Ki:=λb o e=>ne1.keeps b o<|DU _ e;refine DK (wpAny_rule ?_);refine DK (wpAny_pyIter_zip (Ki _ _ hz) ?_);refine DW ⟨HD _<|by decide +kernel,?_⟩;have Si:g1.DictOf knd s.heap.objs.size []:=by obtain⟨o,es,ep,ho,r⟩:=Ka;exact⟨o,es,ep,ne1.keeps _ _ ho,r⟩
 have lk:∀ {l:Addr}{vs:Ò},s.heap.IsList l vs->g1.IsList l vs:=λgR=>by obtain⟨o,ho,r⟩:=gR;exact⟨o,Ki _ o ho,r⟩
 obtain⟨p1,q1,_⟩:=id h1;obtain⟨p2,q2,_⟩:=id h2;obtain⟨p3,q3,_⟩:=id MU;obtain⟨p4,q4,_⟩:=id OT;refine X0 (A:=A.in1) hh Sg D hp ⟨ls hz,ls Q4,ls VW,ls q1,ls q2,ls q3,ls q4⟩ _ ps.length 0 { s with heap:=g1,toks:=X7 } (by omega) (EE _) ⟨.inl ⟨Ki _ _ hz,_,_,Ki _ _ VW⟩,Ki _ _ Q4,h1.at λo e=>Ki _ o e,h2.at λo e=>Ki _ o e⟩ (lk MU) (lk OT) (by exact Si) λh' tk hD keep=>?_;exact⟨rfl,h h' tk hD λb o b1 b2 b3 b4 e=>keep b o (ls e).symm b1 b2 b3 b4<|Ki b o e⟩
end
noncomputable def tDZ (K:Ψ)(ta:TA):TE:=λσ H Q=>ta σ H λvs H1=>∃ a b ķ,vs=[.ref a,.ref b]/\Il K H1 a (ķ.map λkv=>kV kv.1)/\Il K H1 b (ķ.map (·.2))/\ķ.length<=1000/\JJ H1 (.dK (b8 [] ķ)) Q
theorem ni:∀ {ķ:ξ}{us vs:θ},Vals (ķ.map λkv=>kV kv.1) us->Vals (ķ.map (·.2)) vs->∃ ps:List (Key×Value),KV ķ ps/\us.length=ps.length/\∀ (i:Nat) p,ps[i]?=some p->∃ u,us[i]?=some u/\vs[i]?=some p.2/\(aM P w).is p.1 u=true
 | [],_,_,.nil,.nil=>⟨[],.nil,rfl,λi p h=>by simp at h⟩
 | kv::ķ,_,_,.cons (b:=u) ru r,.cons (b:=v) rv r'=>by
  obtain⟨ps,k1,k2,k3⟩:=ni (P:=P) (w:=w) r r';refine⟨(kv.1,v)::ps,.cons ⟨rfl,rv⟩ k1,by simp[k2],λi p h=>?_⟩
  cases i with
  | zero=>
   have h:(kv.1,v)=p:=by simpa using h
   subst h;exact⟨u,rfl,rfl,ke ru⟩
  | succ i=>exact k3 i p (by simpa using h)
theorem xb (K:Ψ)(hc:X.calm=true)(hgD:Gl X "dict")(hmD:X.mg "dict"=none)(hgZ:Gl X "zip")(hmZ:X.mg "zip"=none)(ha:PA X [e1,e2] ta)(hK:autoParam (X.K=K) ŕ)(hs:autoParam (starEach [e1,e2] X.env=[(false,eval e1 X.env),(false,eval e2 X.env)]) ŕ)(OR:autoParam (starEach [e2] X.env=[(false,eval e2 X.env)]) ŕ):
  PE X (.Call (.Name "dict" p) [.Call (.Name "zip" p2) [e1,e2] [] p3] [] pos) (tDZ K ta):=by
 subst hK;intro ñ s σ H Q I h;refine FU (gx I hgD hmD PyProof.Rows.boot_dict ?_);refine F7 ?_;refine Calls.spliced_cons ?_;refine FU<|gx I hgZ hmZ wx (F7 (Iz (ha p3 _ s σ H _ I h) λus s1 gR=>?_) (by rw[hs,OR]) (by rw[OR];rfl));obtain⟨vs,H1,I1,r1,q1⟩:=gR;obtain⟨a,b,ķ,e,hx,hy,hz,q⟩:=q1;subst e;obtain⟨u1,u2,rfl,r,r'⟩:=Aw r1
 cases r
 cases r';obtain⟨its,rv,p1,_⟩:=I1.list hx;obtain⟨Ma,TM,p2,_⟩:=I1.list hy;obtain⟨ps,k1,k2,k3⟩:=ni rv TM;have T7:=KV.length k1;refine call_zip_2 p1.isList p2.isList λh' a1 a2 a3 a4 a5 a6 a7=>?_;refine DW ?_;have lt:∀ {c:Addr}{o:Obj},s1.heap.get? c=some o->@LT.lt Nat _ c s1.heap.objs.size:=λe=>E8 e;obtain⟨oa,ea,ra⟩:=id p1.isList;obtain⟨ob,eb,rb⟩:=id p2.isList;have la:=lt ea;have lb:=lt eb;refine ww (I.ok.hd hc) ⟨?_,?_,?_,?_,?_,?_,?_,?_,?_,?_,?_,?_,?_,?_,?_,?_,?_,?_⟩ a1 a2 a3 a4 a5 ⟨oa,a7 _ _ ea,ra⟩ ⟨ob,a7 _ _ eb,rb⟩ ⟨by exact k2,λi p h1=>by simpa using k3 i p h1⟩ (by omega) λUo tk hD keep=>?_;all_goals try (intro z;have z':@Eq Nat _ _:=z;omega)
 have Qr:(b8 [] ķ).length<=sizeLine:=by have h1:=bY ķ [];rw[FY]at h1;rw[sizeLine_eq];omega
 have le:@LE.le Nat _ s1.heap.objs.size h'.objs.size:=by rw[a6];omega
 refine⟨.ref _,_,I1.laid (λc o e=>?_) le ?_,rfl,q.at (I1.Iq.fresh le)⟩
 ·have:=lt e;refine keep c o ?_ ?_ ?_ ?_<|a7 c o e;all_goals (intro z;have z':@Eq Nat _ _:=z;omega)
 ·exact⟨Qr,Fw.mpr<|FQ (Ey I1.big le),_,k1.merge .nil,hD⟩
theorem Ao (bs:Ð):(List.range bs.length).any (λi=>bs.getD i false)=bs.any id:=by
 have e:(List.range bs.length).map (λi=>bs.getD i false)=bs:=by refine List.ext_getElem (by simp) λi h1 h2=>?_;simp[h2]
 have:=List.any_map (f:=λi=>bs.getD i false) (l:=List.range bs.length) (p:=id);rw[e]at this;exact this.symm
theorem Am (K:Ψ)(hc:X.calm=true)(hK:autoParam (X.K=K) ŕ):IL X (.builtin "any") (λxs H Q=>∃ (p:Addr)(bs:Ð),xs=[.ref p]/\Il K H p (bs.map V.bl)/\Q (.bl (bs.any id)) H):=by
 subst hK;intro ñ s σ H xs us Q I r h;obtain⟨p,bs,rfl,hq,q⟩:=h;obtain⟨u,rfl,r1⟩:=gG r
 cases r1;obtain⟨its,rv,pl,hz⟩:=I.list hq;have hlen:its.length=bs.length:=by have:=rv.length;rw[DH]at this;omega
 have hpn:p≠s.heap.objs.size:=by obtain⟨_,_,e,_⟩:=pl;exact EL (E8 e)
 refine call_any_walk ?_;refine GP pl.isList ?_;refine⟨s.heap.objs.size,[s.heap.objs.size,p],[s.heap.objs.size],its.toArray.size,_,_,λi=>bs.getD i false,rfl,Walks.list (A:=X.A.in1) (I.ok.hd hc) _ p hpn _,⟨⟨_,Eb _ rfl,rfl,rfl⟩,pl.isList.push _⟩,λi v s' Q' E' hv hQ=>?_,λh' tk hk=>?_⟩
 ·have hv:its[i]?=some v:=by simpa using hv
  have hi:i<bs.length:=by rw[<- hlen];exact (DJ.mp hv).1
  have hb:(bs.map V.bl)[i]?=some (V.bl bs[i]):=by rw[DN,DF hi];rfl
  obtain⟨w1,e1,r1⟩:=rv.get hb;rw[hv]at e1;cases e1;obtain rfl:v=Value.bool bs[i]:=r1;dsimp only at hQ;rw[DG,DF hi]at hQ;exact FG hQ
 ·have e:its.toArray.size=bs.length:=by simp[hlen]
  rw[e,Ao];refine⟨.bl _,H,I.kept λb o e=>hk b o (λz=>?_)<|DU _ e,rfl,q⟩;have z':b=s.heap.objs.size:=by simpa using z
  exact absurd (E8 e) (by rw[z'];exact Fc _)
section
variable {x:Str}{p:Pos}{rs:Á}{K:Ψ}
theorem dB {id:String}(k:Cb R r)(hc:IL X (.builtin id) r)(hg:Gl X x)(hm:X.mg x=none)(hv:bootBuiltins x=some (.builtin id))(ha:PA X (e::es) (KU rs))(hn:autoParam (x≠"__name__") ĩ)(Mb:autoParam (Ė x) ĩ)(he:autoParam (Ĕ X e es) ŕ)(L':autoParam (Ē X pos es) ŕ):PE X (.Call (.Name x p) (e::es) [] pos) (tP (rF R rs)):=(bQ hc hg hm hv ha hn Mb he L').imp λ_ _ _ h=>tP.cb k h
theorem Sv (k:Cb R r)(hc:IL X (.type T) r)(hg:Gl X x)(hm:X.mg x=none)(hv:bootBuiltins x=some (.type T))(ha:PA X (e::es) (KU rs))(hn:autoParam (x≠"__name__") ĩ)(Mb:autoParam (Ė x) ĩ)(he:autoParam (Ĕ X e es) ŕ)(L':autoParam (Ē X pos es) ŕ):PE X (.Call (.Name x p) (e::es) [] pos) (tP (rF R rs)):=(fS hc hg hm hv ha hn Mb he L').imp λ_ _ _ h=>tP.cb k h
theorem Ij.put (hd:DR F d v):∀ {ð:ι}{ķ:ξ},ķ.map (·.1)=ð.map (·.1)->Ij F (ð.map (·.2)) (ķ.map (·.2))->
  (ķ.map λkv=>if kv.1=y then (kv.1,v) else kv).map (·.1)=(ð.map λkv=>if kv.1=y then (kv.1,d) else kv).map (·.1)/\Ij F ((ð.map λkv=>if kv.1=y then (kv.1,d) else kv).map (·.2)) ((ķ.map λkv=>if kv.1=y then (kv.1,v) else kv).map (·.2))
 | [],[],_,_=>⟨rfl,rfl⟩
 | [],_::_,h,_=>nomatch h
 | _::_,[],h,_=>nomatch h
 | p::ð,q::ķ,h,⟨u,ws,q1,q2,q3⟩=>by
  rw[DX,DX]at h;rw[DX]at q1;injection h with h1 h2;injection q1 with q1 SN;obtain⟨i1,i2⟩:=Ij.put hd h2<|SN▸q3;simp only[DX,h1];by_cases z:p.1=y
  ·rw[if_pos z,if_pos z];exact⟨by rw[i1],v,_,rfl,hd,i2⟩
  ·rw[if_neg z,if_neg z];exact⟨by rw[h1,i1],_,_,rfl,by show DR F p.2 q.2;rw[q1];exact q2,i2⟩
noncomputable def sW (ð:ι)(y:Key)(d:D):ι:=if (ð.any λkv=>decide (kv.1=y))=true then ð.map (λkv=>if kv.1=y then (kv.1,d) else kv) else ð++[(y,d)]
noncomputable def rM (ð:ι)(y:Key):ι:=ð.filter λkv=>decide (kv.1≠y)
noncomputable def gu (ð more:ι):ι:=more.foldl (λacc kv=>sW acc kv.1 kv.2) ð
theorem Dv {α β:Type}{l:List (Key×α)}{m:List (Key×β)}(h:l.map (·.1)=m.map (·.1)):(l.any λkv=>decide (kv.1=y))=m.any λkv=>decide (kv.1=y):=by
 have:∀ {γ:Type} (l:List (Key×γ)),(l.any λkv=>decide _)=(l.map (·.1)).any λk=>decide (k=y):=λl=>by rw[List.any_map];rfl
 rw[this,this,h]
theorem U3 (h:ķ.map (·.1)=ð.map (·.1))(k:Ij F (ð.map (·.2)) (ķ.map (·.2)))(hd:DR F d v):(cO ķ y v).map (·.1)=(sW ð y d).map (·.1)/\Ij F ((sW ð y d).map (·.2)) ((cO ķ y v).map (·.2)):=by
 unfold cO sW;rw[Dv h];by_cases z:(ð.any λkv=>decide (kv.1=y))=true
 ·rw[if_pos z,if_pos z];exact Ij.put hd h k
 ·rw[if_neg z,if_neg z];simp only[DP,DX,Fu,h,true_and];exact k.app (.one hd)
theorem mT:∀ {md:ι}{mv:ξ}{ð:ι}{ķ:ξ},mv.map (·.1)=md.map (·.1)->Ij F (md.map (·.2)) (mv.map (·.2))->ķ.map (·.1)=ð.map (·.1)->Ij F (ð.map (·.2)) (ķ.map (·.2))->
  (b8 ķ mv).map (·.1)=(gu ð md).map (·.1)/\Ij F ((gu ð md).map (·.2)) ((b8 ķ mv).map (·.2))
 | [],[],_,_,_,_,h,k=>⟨h,k⟩
 | [],_::_,_,_,h,_,_,_=>nomatch h
 | _::_,[],_,_,h,_,_,_=>nomatch h
 | p::md,q::mv,ð,ķ,h,⟨u,ws,q1,q2,q3⟩,h',k=>by rw[DX,DX]at h;rw[DX]at q1;injection h with h1 h2;injection q1 with q1 SN;obtain⟨i1,i2⟩:=U3 (y:=p.1) h' k q2;have:=mT (ð:=sW ð p.1 p.2) (ķ:=cO ķ p.1 u) h2 (SN▸q3) i1 i2;show (b8 (cO ķ q.1 q.2) mv).map (·.1)=_/\Ij F _ ((b8 (cO ķ q.1 q.2) mv).map (·.2));rw[h1,show q.2=u from q1];exact this
theorem BQ:∀ {ð:ι}{ķ:ξ},ķ.map (·.1)=ð.map (·.1)->Ij F (ð.map (·.2)) (ķ.map (·.2))->(lU ķ y).map (·.1)=(rM ð y).map (·.1)/\Ij F ((rM ð y).map (·.2)) ((lU ķ y).map (·.2))
 | [],[],_,_=>⟨rfl,rfl⟩
 | [],_::_,h,_=>nomatch h
 | _::_,[],h,_=>nomatch h
 | p::ð,q::ķ,h,⟨u,ws,q1,q2,q3⟩=>by
  rw[DX,DX]at h;rw[DX]at q1;injection h with h1 h2;injection q1 with q1 SN;obtain⟨i1,i2⟩:=BQ (y:=y) h2<|SN▸q3;unfold lU rM at i1 i2 ⊢;rw[EZ,EZ,h1];by_cases z:p.1=y
  ·rw[if_neg<|by simp[z],if_neg<|by simp[z]];exact⟨i1,i2⟩
  ·rw[if_pos<|by simp[z],if_pos<|by simp[z]];simp only[DX,i1,h1,true_and];exact⟨_,_,rfl,by show DR F p.2 q.2;rw[q1];exact q2,i2⟩
theorem Vu {ð:ι}{ķ:ξ}(h:ķ.map (·.1)=ð.map (·.1)):Ij F (ð.map pK) (ķ.map λkv=>kV kv.1):=by
 have:∀ l:List Key,Ij F (l.map kD) (l.map kV):=λl=>by
  induction l with
  | nil=>rfl
  | cons y l ih=>exact⟨_,_,rfl,by cases y <;> rfl,ih⟩
 have e1:ð.map pK=(ð.map (·.1)).map kD:=by rw[DL];rfl
 have e2:(ķ.map λkv=>kV kv.1)=(ķ.map (·.1)).map kV:=by rw[DL];rfl
 rw[e1,e2,h];exact this _
theorem r9:∀ ms:Ξ,Ij F (ms.map .int) (ms.map V.int)
 | []=>rfl
 | _::ms=>⟨_,_,rfl,rfl,r9 ms⟩
noncomputable def prs (ð:ι):χ:=ð.map λkv=>.tup [kD kv.1,kv.2]
theorem U4:∀ {ð:ι}{vs:π},Ij F (prs ð) vs->∃ ķ:ξ,ķ.map (·.1)=ð.map (·.1)/\Ij F (ð.map (·.2)) (ķ.map (·.2))/\Paired (λv (kv:Key×V)=>∃ t,v=.ref t/\F t=some (.tup [kV kv.1,kv.2])) vs ķ
 | [],_,h=>by rw[show _=[] from h];exact⟨[],rfl,rfl,.nil⟩
 | p::ð,_,⟨v,ws,q1,⟨a,us,q0,q2,u1,u2,q3,q4,u3,u4,q5,q6,q7⟩,q8⟩=>by
  obtain⟨ķ,i1,i2,i3⟩:=U4 q8;subst q0 q1 q5 q3
  cases q7;rw[oO q4]at q2;exact⟨(p.1,u3)::ķ,by rw[DX,i1];rfl,⟨_,_,rfl,q6,i2⟩,.cons ⟨a,rfl,q2⟩ i3⟩
inductive M0:Ä
 |s {x:D}{m:χ}:Wm x m->M0 [x] (.int m.length)
 |k {ð:ι}:M0 [Jq ð] (.int ð.length)
theorem aG:IL X (.builtin "len") (λxs H Q=>(∃ p ys,xs=[.ref p]/\(Il X.K H p ys\/Kc X.K H p ys)/\Q (.int ys.length) H)\/∃ d ķ,xs=[.ref d]/\Rd H d (.dK ķ)/\Q (.int ķ.length) H):=MO.or MP
theorem b5:Cb M0 (λxs H Q=>(∃ p ys,xs=[.ref p]/\(Il K H p ys\/Kc K H p ys)/\Q (.int ys.length) H)\/∃ d ķ,xs=[.ref d]/\Rd H d (.dK ķ)/\Q (.int ķ.length) H):=λF H l xs d Q s z hx q=>by
 cases z with
 | s h=>exact .inl (Wd F H _ xs _ Q s (.mk h) hx q)
 | k=>
  obtain⟨v,ws,rfl,⟨a,ķ,rfl,p1,p2,p3⟩,rfl⟩:=hx;have:=congrArg List.length p2;simp at this;exact .inr ⟨a,ķ,rfl,p1.mono s,by rw[this];exact tP.at s q rfl⟩
inductive cLi:Ä
 |s {x:D}{m:χ}:Wm x m->cLi [x] (.lst m)
 |k {ð:ι}:cLi [Jq ð] (.lst (ð.map pK))
theorem cU (hc:X.calm=true):IL X (.type "list") (λxs H Q=>(∃ p ys,xs=[.ref p]/\(Il X.K H p ys\/Kc X.K H p ys)/\JJ H (.lst ys) Q)\/∃ d ķ,xs=[.ref d]/\Rd H d (.dK ķ)/\JJ H (.lst (ķ.map λkv=>kV kv.1)) Q):=(listS X.K).or (qg hc)
theorem fW:Cb cLi (λxs H Q=>(∃ p ys,xs=[.ref p]/\(Il K H p ys\/Kc K H p ys)/\JJ H (.lst ys) Q)\/∃ d ķ,xs=[.ref d]/\Rd H d (.dK ķ)/\JJ H (.lst (ķ.map λkv=>kV kv.1)) Q):=λF H l xs d Q s z hx q=>by
 cases z with
 | s h=>exact .inl (Dt F H _ xs _ Q s (.mk h) hx q)
 | k=>
  obtain⟨v,ws,rfl,⟨a,ķ,rfl,p1,p2,p3⟩,rfl⟩:=hx;exact .inr ⟨a,ķ,rfl,p1.mono s,k9 s q λc G e z=>⟨c,_,rfl,z,Vu p2⟩⟩
inductive Sw:Ä
 |k {ð:ι}:Sw [Jq ð] (Jq (gu [] ð))
 |p {ð:ι}:ð.length<=1000->Sw [.lst (prs ð)] (Jq (gu [] ð))
theorem eA (hc:X.calm=true):IL X (.type "dict") (λxs H Q=>(∃ p ķ,xs=[.ref p]/\Rd H p (.dK ķ)/\JJ H (.dK (b8 [] ķ)) Q)\/∃ p ķ,xs=[.ref p]/\uu H p ķ/\ķ.length<=1000/\JJ H (.dK (b8 [] ķ)) Q):=Ol.or (c8 hc)
theorem ky:Cb Sw (λxs H Q=>(∃ p ķ,xs=[.ref p]/\Rd H p (.dK ķ)/\JJ H (.dK (b8 [] ķ)) Q)\/∃ p ķ,xs=[.ref p]/\uu H p ķ/\ķ.length<=1000/\JJ H (.dK (b8 [] ķ)) Q):=λF H l xs d Q s z hx q=>by
 cases z with
 | k=>
  obtain⟨v,ws,rfl,⟨a,ķ,rfl,p1,p2,p3⟩,rfl⟩:=hx;exact .inl ⟨a,ķ,rfl,p1.mono s,k9 s q λc G e z=>let m:=mT p2 (p3.mono e) (ð:=[]) (ķ:=[]) rfl rfl;⟨c,_,rfl,.inl z,m.1,m.2⟩⟩
 | p h3=>
  obtain⟨v,ws,rfl,⟨a,vs,rfl,p1,p2⟩,rfl⟩:=hx;obtain⟨ķ,i1,i2,i3⟩:=U4 p2;have:=congrArg List.length i1;simp at this;exact .inr ⟨a,ķ,rfl,⟨vs,s _ _ p1,Paired.JD i3 λ_ _ gR=>(by obtain⟨t,z1,z2⟩:=gR;exact⟨t,z1,s _ _ z2⟩)⟩,by omega,k9 s q λc G e z=>let m:=mT i1 (i2.mono e) (ð:=[]) (ķ:=[]) rfl rfl;⟨c,_,rfl,.inl z,m.1,m.2⟩⟩
inductive cSo:Ä
 |k {ð:ι}{ns ms:Ξ}:ð.map (·.1)=ns.map (λn:Int=>(Sum.inl n:Key))->ns.length<64->(∀ OM:Ξ,OM.Perm ns->OM.Pairwise (·<=·)->OM=ms)->cSo [Jq ð] (.lst (ms.map .int))
theorem xW:Cb cSo (λxs H Q=>∃ d ķ ns,xs=[.ref d]/\Rd H d (.dK ķ)/\ķ.map (·.1)=ns.map (λn:Int=>(Sum.inl n:Key))/\ns.length<64/\
  ∀ OM:Ξ,OM.Perm ns->OM.Pairwise (·<=·)->JJ H (.lst (OM.map V.int)) Q):=λF H l xs d Q s z hx q=>by
 obtain⟨h3,h4,h5⟩:=z;obtain⟨v,ws,rfl,⟨a,ķ,rfl,p1,p2,p3⟩,rfl⟩:=hx;refine⟨a,ķ,_,rfl,p1.mono s,p2.trans h3,h4,λOM a1 a2=>?_⟩;rw[h5 OM a1 a2];exact k9 s q λc G e z=>⟨c,_,rfl,z,r9 _⟩
inductive rDz (rs:Á) (ε:En) (d:D):Prop
 |mk {ð:ι}:rs ε [.lst (ð.map pK),.lst (ð.map (·.2))]->ð.length<=1000->d=Jq (gu [] ð)->rDz rs ε d
theorem Ax:∀ {ð:ι}{vs us:π},Ij F (ð.map pK) vs->Ij F (ð.map (·.2)) us->∃ ķ:ξ,vs=ķ.map (λkv=>kV kv.1)/\us=ķ.map (·.2)/\ķ.map (·.1)=ð.map (·.1)
 | [],_,_,h,h'=>⟨[],h,h',rfl⟩
 | p::ð,_,_,⟨v,ws,q1,q2,q3⟩,⟨u,us,q4,q5,q6⟩=>by obtain⟨ķ,i1,i2,i3⟩:=Ax q3 q6;exact⟨(p.1,u)::ķ,by rw[q1,i1,oO q2];rfl,by rw[q4,i2];rfl,by rw[DX,i3];rfl⟩
inductive cMi:Ä
 |mk {ns:Ξ}{m:Int}:m∈ns->(∀ a∈ns,m<=a)->cMi [.lst (ns.map .int)] (.int m)
end
theorem PE.p (h:PE X e (tN re)):PE X e (tP re):=h.imp λ_ _ _=>tN.p
theorem CJ {K:Ψ}(h:tN (rL n js ri rt re) σ H Q):jN (tI ri) (mG n) js (oR K n) (MY rt) (tP re) σ H Q:=by
 obtain⟨F,ε,d,S,@⟨l,os,h1,h2,h3,h4⟩,q⟩:=h;refine⟨F,ε,l,S,h1,λJ H1 e1 hJ=>qv (S.step e1) hJ h2 h3 λa H2 vs e2 ha hv hd=>?_⟩;have n0:H a=none:=by cases y:H a with
  | none=>rfl
  | some o=>rw[e1 _ _ y]at ha;cases ha
 subst h4;refine q a H2 (e1.trans e2) n0 ⟨vs,hv,hd.mono λb o y=>?_⟩;unfold grow bg at y;by_cases z:b=a
 ·subst z;rw[if_pos ha,if_pos rfl]at y;cases y
 ·rw[bN z];unfold grow;by_cases w:H b=none
  ·rw[if_pos w]at y ⊢;by_cases w1:H1 b=none
   ·rw[if_pos w1,if_neg z]at y;exact y
   ·rw[if_neg w1]at y;exact e2 _ _ y
  ·rw[if_neg w]at y ⊢;by_cases w1:H1 b=none
   ·cases y3:H b with
    | none=>exact absurd y3 w
    | some o=>rw[e1 _ _ y3]at w1;cases w1
   ·rwa [if_neg w1]at y
section
variable {st:Stmt}{re rk:Rx}{K:Ψ}{i j:Nat}
theorem Z':PE X (.Dict [] [] pos) (tN λ_ d=>d=Jq []):=MB.imp λσ H Q gR p hp=>by obtain⟨F,ε,d,S,h,q⟩:=gR;subst h;exact q p _ (aV (f'.refl _) hp) hp ⟨[],ag,rfl,rfl⟩
inductive rD1 (ra rb:Rx) (ε:En) (d:D):Prop
 |mk {k:Key}{x v:D}:ra ε x->x=kD k->rb ε v->d=Jq [(k,v)]->rD1 ra rb ε d
theorem dD1 (ha:PE X a (tP ra))(hb:PE X b (tP rb)):PE X (.Dict [some a] [b] pos) (tN (rD1 ra rb)):=
 (CV (B2 ha hb CQ) rfl rfl (λz=>nomatch z)<|Nat.le_of_ble_eq_true rfl).imp λσ H Q ⟨F,ε,d,S,.mk (k:=k) h1 hk h2 h3,q⟩ p hp=>by
  subst hk;have S0:Sd F σ (upd H p<|.dK []) ε:=⟨λb o y=>by rw[ab (λz=>by rw[z]at y;rw[S.le _ _ y]at hp;cases hp)];exact S.le _ _ y,S.len,S.rd⟩
  refine tP.go S0 h1 λx H1 e1 S1 q1=>tP.go S1 h2 λy H2 e2 S2 q2=>⟨e2 _ _<|e1 _ _ ag,[(k,y)],by rw[oO q1];rfl,Nat.le_of_ble_eq_true rfl,?_⟩
  have e3:f' H (upd H2 p<|.dK (b8 [] [(k,y)])):=aW ((aV (f'.refl _) hp).trans<|e1.trans e2) hp;subst h3;refine q p _ e3 hp ⟨[_],by rw[ag];rfl,rfl,_,_,rfl,q2.mono λb o w=>?_,rfl⟩;rw[au e1 e2]at w;unfold grow at w;by_cases z:b=p
  ·subst z;rw[if_neg (by rw[ag];exact nofun)]at w;rw[S.le _ _ w]at hp;cases hp
  ·rw[bN z];unfold grow;rw[ab z]at w ⊢;exact w
inductive UU (i:Nat) (rk re:Rx) (ε:Ev):Fl->Prop
 |mk {ð:ι}{k:Key}{x d:D}:ε[i]?=some (.ow (Jq ð))->ð.length<=1000->PQ re ε d->rk (ε.map Sl.a) x->x=kD k->UU i rk re ε (.nx (ε.set i (.ow (Jq (sW ð k d)))))
theorem qP (h:PS X st (TJ (sn i) (tP rk) te))(kt:∀ σ H Q,tP re σ H Q->te σ H Q):QS X st (UU i rk re):=λF0 H0=>h.imp λE σ H gR=>by obtain⟨F,ε,f,S,h,p⟩:=gR;obtain @⟨ð,k,x,d,h1,h2,h3,h4,hk⟩:=h;subst hk;refine kt _ _ _ (h3.go S λx H1 F1 e1 u1 S1 q1=>?_);obtain⟨a,p1,p2,p3,ķ,p4,p5,p6⟩:=S1.ro i _ h1;refine⟨_,p1,tP.go S1.a h4 λy H2 e2 _ q2=>⟨a,_,rfl,oO q2▸Oo.k (e2 _ _ p4) (HA (by have:=congrArg List.length p5;simp at this;rw[this];exact h2)<|by decide +kernel),p σ _ F1 u1 ((S1.JM e2).chg h1 p1 ?_)⟩⟩;obtain⟨i1,i2⟩:=U3 p5 p6 q1;exact⟨_,ag,i1,i2⟩
inductive TY (i j:Nat) (ε:Ev):Fl->Prop
 |mk {l:χ}{d:D}:ε[j]?=some (.ow (.lst (l++[d])))->TY i j ε (.nx ((ε.set j (.ow (.lst l))).set i (.fz d)))
inductive TZ (i j:Nat) (ε:Ev):Fl->Prop
 |mk {l:χ}{d:D}:ε[j]?=some (.ow (.lst (d::l)))->TZ i j ε (.nx ((ε.set j (.ow (.lst l))).set i (.fz d)))
theorem a1k (h:PS X st (lY (UN K "list" Xu (sn j)) (bU i))):QS X st (TY i j):=λF0 H0=>h.imp λE σ H gR=>by
 obtain⟨F,ε,f,S,h,p⟩:=gR;obtain @⟨l,d,h1⟩:=h;obtain⟨a,p1,p2,p3,vs,p4,p5⟩:=S.ro j _ h1;have hl:=p5.length;rw[DT]at hl;obtain⟨v,v1,v2⟩:=p5.at (i:=l.length) (d:=d) (by simp)
 refine⟨_,p1,.inl ⟨rfl,vs,Il.of p4⟩,a,vs,v,rfl,rfl,p4,by rw[hl];exact v1,p _ _ F (f'.refl _)<|(S.chg (d:=.lst l) h1 p1 ⟨_,ag,?_⟩).PN v2 i⟩;have:=p5.take l.length;rw[List.take_left'  rfl]at this;rw[List.dropLast_eq_take,hl];exact this
theorem Xy (h:PS X st (lY (Zz K "list" AV (sn j) (AE (tC (.int 0)) wR)) (bU i))):QS X st (TZ i j):=λF0 H0=>h.imp λE σ H gR=>by obtain⟨F,ε,f,S,h,p⟩:=gR;obtain @⟨l,d,h1⟩:=h;obtain⟨a,p1,p2,p3,vs,p4,v,ws,rfl,p5,p6⟩:=S.ro j _ h1;exact⟨_,p1,.inl ⟨rfl,_,Il.of p4⟩,a,_,0,0,v,rfl,rfl,p4,by decide,by decide,by simp[seqIndex?],rfl,p _ _ F (f'.refl _)<|(S.chg (d:=.lst l) h1 p1 ⟨_,ag,by simpa using p6⟩).PN p5 i⟩
inductive Rw (i:Nat) (rk:Rx) (ε:Ev):Fl->Prop
 |mk {ð:ι}{k:Key}{x v:D}:ε[i]?=some (.ow (Jq ð))->rk (ε.map Sl.a) x->x=kD k->cI ð k=some v->Rw i rk ε (.nx (ε.set i (.ow (Jq (rM ð k)))))
theorem Xz (h:PS X st (AC (AD (sn i) (tP rk)))):QS X st (Rw i rk):=λF0 H0=>h.imp λE σ H gR=>by obtain⟨F,ε,f,S,h,p⟩:=gR;obtain @⟨ð,k,x,v,h1,h2,hk,h3⟩:=h;subst hk;obtain⟨a,p1,p2,p3,ķ,p4,p5,p6⟩:=S.ro i _ h1;obtain⟨w,w1,_⟩:=(Ij.val p5 p6).2 v h3;obtain⟨i1,i2⟩:=BQ p5 p6;exact⟨_,p1,a,rfl,.inl ⟨ķ,.inl p4⟩,tP.go S.a h2 λy H2 e2 _ q2=>⟨ķ,k,w,e2 _ _ p4,oO q2,w1,p σ _ F (f'.refl _)<|(S.JM e2).chg h1 p1 ⟨_,ag,i1,i2⟩⟩⟩
inductive rSI (i:Nat) (rk re:Rx) (ε:Ev):Fl->Prop
 |mk {l:χ}{m:Nat}{k:Int}{d:D}:ε[i]?=some (.ow (.lst l))->PQ re ε d->rk (ε.map Sl.a) (.int k)->RF l.length k=some m->rSI i rk re ε (.nx (ε.set i (.ow (.lst (l.set m d)))))
theorem qSI (h:PS X st (lY te (YN (sn i) (tP rk) TV)))(kt:∀ σ H Q,tP re σ H Q->te σ H Q):QS X st (rSI i rk re):=λF0 H0=>h.imp λE σ H gR=>by
 obtain⟨F,ε,f,S,h,p⟩:=gR;obtain @⟨l,m,k,d,h1,h3,h4,h5⟩:=h;refine kt _ _ _ (h3.go S λx H1 F1 e1 u1 S1 q1=>?_);obtain⟨a,p1,p2,p3,vs,p4,p5⟩:=S1.ro i _ h1;refine⟨_,p1,tP.go S1.a h4 λy H2 e2 _ q2=>⟨a,vs,k,m,rfl,q2,e2 _ _ p4,by rw[p5.length];exact h5,p σ _ F1 u1<|(S1.JM e2).chg h1 p1 ⟨_,ag,?_⟩⟩⟩;have:∀ {l:χ}{vs:π} (m:Nat),Ij F1 l vs->Ij F1 (l.set m d) (vs.set m x):=by
  intro l
  induction l with
  | nil=>intro vs m h;rw[h];rfl
  | cons e l ih=>
   intro vs m h;obtain⟨v,ws,rfl,h1,h2⟩:=h
   cases m with
   | zero=>exact⟨_,_,rfl,q1,h2⟩
   | succ m=>exact⟨_,_,rfl,h1,ih m h2⟩
 exact this m p5
inductive Xx (i:Nat) (g:Int->Int->Int) (re:Rx) (ε:Ev):Fl->Prop
 |mk {x y:Int}:ε[i]?=some (.fz (.int x))->re (ε.map Sl.a) (.int y)->Xx i g re ε (.nx (ε.set i (.fz (.int (g x y)))))
theorem UX (h:PS X st (Xg i (tP re) (ipI g))):QS X st (Xx i g re):=λF0 H0=>h.imp λE σ H gR=>by obtain⟨F,ε,f,S,h,p⟩:=gR;obtain @⟨x,y,h1,h2⟩:=h;obtain⟨v,v1,v2⟩:=S.rz i _ h1;exact⟨v,v1,tP.go S.a h2 λu H1 e1 _ q1=>⟨x,y,v2,q1,p _ _ F (f'.refl _)<|(S.JM e1).PN (d:=.int _) rfl i⟩⟩
inductive rEx (re:Rx) (ε:Ev):Fl->Prop
 |mk {d:D}:re (ε.map Sl.a) d->rEx re ε (.nx ε)
theorem qE (h:PE X e (tP re))(hs:autoParam (swapsWith e none pos.line X.env=pure false) ŕ):QS X (.Expr e pos) (rEx re):=λF0 H0=>(aE h hs).imp λE σ H gR=>by obtain⟨F,ε,f,S,h,p⟩:=gR;obtain⟨h1⟩:=h;exact tP.go S.a h1 λx H1 e1 _ q1=>p σ H1 F (f'.refl _) (S.JM e1)
inductive rTs (q:Ô) (re:Rx) (ε:Ev):Fl->Prop
 |mk {d:D}{ε':Ev}:re (ε.map Sl.z) d->q d ε ε'->rTs q re ε (.nx ε')
theorem qT (h:PS X st (lY (tP re) g))(hg:Ux g q):QS X st (rTs q re):=λF0 H0=>h.imp λE σ H gR=>by obtain⟨F,ε,f,S,h,p⟩:=gR;obtain⟨h1,h2⟩:=h;exact tP.go S.z h1 λx H1 e1 _ q1=>hg _ _ _ _ _ _ _ _ x _ (S.grow e1) q1 h2 λσ' S'=>p σ' H1 _ (ak S.le) S'
end
theorem uH (h0:H0 a≠none->F0 a=some o)(hH:H a=some o):Jp a o' (grow F0 H0 H)=grow (Jp a o' F0) (Jp a o' H0) (Jp a o' H):=by
 funext b;by_cases z:b=a
 ·subst z;by_cases n:H0 b=none
  ·have e1:grow F0 H0 H b≠none:=by rw[aw n,hH];exact nofun
   rw[c9 e1,aw<|Mp.mpr n,c9 (by rw[hH];exact nofun)]
  ·have e0:=h0 n;have e1:grow F0 H0 H b≠none:=by unfold grow;rw[if_neg n,e0];exact nofun
   rw[c9 e1];unfold grow;rw[if_neg λm=>n<|Mp.mp m,c9 (by rw[e0];exact nofun)]
 ·rw[br z];unfold grow;rw[br z,br z,br z]
theorem gV (h:F a=none\/F a=some o):Jp a o (Jp a u F)=F:=by
 rcases h with h|h
 ·rw[su h,su h]
 ·exact mQ h
theorem Q8.Jp (hF:F a=Option.some o)(k:Rk o ķ)(k':Rk o' ķ)(hb:b≠a):Q8 F H d b->Q8 (L2.Jp a o' F) (L2.Jp a o' H) d b:=by
 cases d with
 | lst l=>rintro⟨vs,h,q⟩;exact⟨vs,by rw[br hb];exact h,q.Jp hF k k'⟩
 | dct ks l=>rintro⟨vs,h,h2,q⟩;exact⟨vs,by rw[br hb];exact h,h2,q.Jp hF k k'⟩
 | _=>exact λz=>z.elim
theorem Ss.Jp {a:Addr}(S:Ss F0 H0 F σ H ε)(hF:F a=some o)(k:Rk o ķ)(k':Rk o' ķ):Ss (L2.Jp a o' F0) (L2.Jp a o' H0) (L2.Jp a o' F) σ (L2.Jp a o' H) ε:=by
 have hH:=S.le _ _ hF;have h0:=λn=>by have:=S.lo _ _ hF;unfold L2.grow at this;rwa [if_neg n]at this
 refine⟨cv S.b0,cv S.f0,cv S.up,?_,S.len,λi d q=>?_,λi d q=>?_,S.ap⟩
 ·rw[<- uH h0 hH];exact cv S.lo
 ·obtain⟨v,v1,v2⟩:=S.rz i d q;exact⟨v,v1,v2.Jp hF k k'⟩
 ·obtain⟨b,b1,b2,b3,b4⟩:=S.ro i d q;have hb:b≠a:=λz=>by rw[z,hF]at b2;cases b2
  exact⟨b,b1,by rw[br hb];exact b2,by rw[br hb];exact b3,b4.Jp hF k k' hb⟩
section
variable {X:Cx}
noncomputable def JG (X:Cx)(E:d8):d8 where
 nx:=λσ H=>(∃ a o ķ,NF X a/\H a=some (.frz o (.dK ķ))/\E.nx σ (upd H a (.dK ķ)))\/E.nx σ H
 rt:=λv H=>(∃ a o ķ,NF X a/\H a=some (.frz o (.dK ķ))/\E.rt v (upd H a (.dK ķ)))\/E.rt v H
theorem Tt.JG {F0 H0 F:Hp}{E:d8}:∀ {f:Fl},Tt F0 H0 F E f->Tt F0 H0 F (JG X E) f
 | .nx _,h=>λσ H F' u S=>.inr (h σ H F' u S)
 | .rt _,h=>λx H a b c=>.inr (h x H a b c)
theorem SP.Rq (h:SP X ñ (JG X E) f s):SP X ñ E f s:=by
 cases f with
 | next=>
  obtain⟨σ,H,I,⟨a,o,ķ,nf,e,q⟩|q⟩:=h
  ·exact⟨σ,_,I.UG e nf,q⟩
  ·exact⟨σ,H,I,q⟩
 | ret v=>
  obtain⟨x,σ,H,I,r,⟨a,o,ķ,nf,e,q⟩|q⟩:=h
  ·exact⟨x,σ,_,I.UG e nf,r,q⟩
  ·exact⟨x,σ,H,I,r,q⟩
 | brk=>obtain⟨σ,H,I,q⟩:=h;exact False.elim q
 | cont=>obtain⟨σ,H,I,q⟩:=h;exact False.elim q
theorem rB {ð:ι}(hJ:DC J pr)(hg:Ux g q)(S1:Ss F0 H0 F1 σ H1 ε)(p1:Rd F1 a (.dK ķ))(p2:ķ.map (·.1)=ð.map (·.1))(p3:Ij F1 (ð.map (·.2)) (ķ.map (·.2)))(fz:Fz X H1 H2 a o ķ)(h2:lJ q rb ε (ð.map pr) f)(pu:Tt F0 H0 F1 E f):
  ∃ W:Nat->Nat->Υ,(∃ m,W 0 m σ H2)/\∀ i m σ H,W i m σ H->((J o a).stop i H/\(JG X E).nx σ H)\/((J o a).go i H/\∃ N:Υ,(∀ σ' H',N σ' H'->∃ m',m'<m/\W (i+1) m' σ' H')/\∀ x H',(J o a).S9 i H x H'->g x σ H' λσ2 H2=>(λE σ H=>∃ F0 H0,tQ F0 H0 rb E σ H) { JG X E with nx:=N,ct:=N,bk:=(JG X E).nx } σ2 H2):=by
 obtain⟨f1,f2⟩:=fz;rcases p1 with p1|⟨r,p1⟩
 ·have QY:=S1.le _ _ p1;rcases f2 with⟨_,f2,nf⟩|f2
  ·have S2:=S1.Jp p1 (.inl rfl)<|.inr ⟨o,rfl⟩;have eF:Jp a _ F1 a=some (.frz o<|.dK ķ):=c9 (by rw[p1];exact nofun);have h0:F0 a=none\/F0 a=some (.dK ķ):=by
    cases y:F0 a with
    | none=>exact .inl rfl
    | some w=>have:=S1.up _ _ y;rw[p1]at this;exact .inr this.symm
   have h0':H0 a=none\/H0 a=some (.dK ķ):=by
    cases y:H0 a with
    | none=>exact .inl rfl
    | some w=>have:=S1.b0 _ _ y;rw[QY]at this;exact .inr this.symm
   rw[jM QY]at f2;subst f2;refine nq (tb:=λE σ H=>∃ F0 H0,tQ F0 H0 rb E σ H) (λ_ _ _ h=>⟨_,_,h⟩) hg S2 (hJ eF p2<|p3.Jp p1 (.inl rfl) (.inr ⟨o,rfl⟩)) h2 ?_
   cases f with
   | nx ε'=>exact λσ' H' F' u S'=>.inl ⟨a,o,ķ,nf,S'.le _ _<|u _ _ eF,by have S3:=S'.Jp (u _ _ eF) (.inr ⟨o,rfl⟩)<|.inl rfl;rw[gV h0,gV h0']at S3;rw[jM<|S'.le _ _ (u _ _ eF)];refine pu σ' _ _ ?_ S3;have:=cv (a:=a) (o:=.dK ķ) u;rwa [mQ p1]at this⟩
   | rt d=>exact λx H' b1 b2 z=>.inl ⟨a,o,ķ,nf,b2 _ _ eF,by
     have hH':=b2 _ _ eF;rw[jM hH'];have b3:=cv (a:=a) (o:=.dK ķ) b1;rw[gV h0']at b3;have b4:=cv (a:=a) (o:=.dK ķ) b2;rw[mQ p1]at b4;refine pu x _ b3 b4 ?_;have hz:grow (Jp a (.frz o<|.dK ķ) F0) (Jp a (.frz o<|.dK ķ) H0) H' a=some (.frz o<|.dK ķ):=by
      by_cases n:H0 a=none
      ·rw[aw<|Mp.mpr n];exact hH'
      ·unfold grow;rw[if_neg λm=>n<|Mp.mp m,c9];intro m;have:=S1.lo _ _ p1;unfold grow at this;rw[if_neg n,m]at this;cases this
     have z2:=z.Jp hz (.inr ⟨o,rfl⟩)<|.inl rfl;rw[uH (λn=>by unfold grow at hz;rwa [if_neg n]at hz) hH',gV h0,gV h0']at z2
     exact z2⟩
  ·rw[f2,QY]at f1;cases f1
 ·have QY:=S1.le _ _ p1;rcases f2 with⟨f2,_⟩|f2
  ·rw[QY]at f2;cases f2
  ·subst f2;rw[QY]at f1;cases f1;refine nq (tb:=λE σ H=>∃ F0 H0,tQ F0 H0 rb E σ H) (λ_ _ _ h=>⟨_,_,h⟩) hg S1 (hJ p1 p2 p3) h2 (.JG pu)
theorem PR (hp:PassesOwn X.Ę X.A X.env X.xe)(hc:X.calm=true)(hi:PI X tg iter (zW X (tP rd)))(ht:PG X tg g)(hg:Ux g q)(hb:PF X ss rb)(hs:autoParam (ĕ X iter) ŏ):QS X (.For tg iter ss [] pos) (mf (Wx rd) q rb):=by
 intro F0 H0 ñ s σ H E I h;obtain⟨F,ε,f,S,@⟨l,@⟨c,h1,hl⟩,h2⟩,p⟩:=h;have hbx:N6 X ss (λE σ H=>∃ F0 H0,tQ F0 H0 rb E σ H):=λñ s σ H E I gR=>by obtain⟨F0,H0,h⟩:=gR;exact hb F0 H0 _ s σ H E I h
 refine Iz (bV hp hc hi ht hbx hs _ s σ H _ I ⟨λx H1=>f' H H1/\DR _ c x,tP.go S.z h1 λx H1 e1 _ q1=>⟨e1,q1⟩,λx H1 gR=>?_⟩) λf s' q=>SP.Rq q;obtain⟨e1,hx⟩:=gR;have S1:=S.grow e1;have pu:=p.up (ak (H1:=H1) S.le)
 cases hl with
 | l hl=>
  obtain⟨a,vs,ex,ha,hv⟩:=hl.at hx;exact⟨a,ex,.inl ⟨vs,.inl<|ha.mono S1.le,nq (tb:=λE σ H=>∃ F0 H0,tQ F0 H0 rb E σ H) (λ_ _ _ h=>⟨_,_,h⟩) hg S1 (BD ha hv) h2<|.JG pu⟩⟩
 | t=>
  obtain⟨a,vs,ex,ha,hv⟩:=hx;exact⟨a,ex,.inr<|.inl ⟨vs,Kc.of<|S1.le _ _ ha,nq (tb:=λE σ H=>∃ F0 H0,tQ F0 H0 rb E σ H) (λ_ _ _ h=>⟨_,_,h⟩) hg S1 (Ub ha hv) h2<|.JG pu⟩⟩
 | k=>
  obtain⟨a,ķ,ex,p1,p2,p3⟩:=hx;exact⟨a,ex,.inr<|.inr ⟨ķ,p1.mono S1.le,λo H2 fz=>rB vL hg S1 p1 p2 p3 fz h2 pu⟩⟩
theorem qLv (hp:PassesOwn X.Ę X.A X.env X.xe)(hc:X.calm=true)(hi:PI X tg iter (iD2 X WY (tP rd)))(ht:PG X tg g)(hg:Ux g q)(hb:PF X ss rb)(hs:autoParam (ĕ X iter) ŏ):QS X (.For tg iter ss [] pos) (mf (rVs rd) q rb):=by
 intro F0 H0 ñ s σ H E I h;obtain⟨F,ε,f,S,@⟨l,@⟨ð,h1,hl⟩,h2⟩,p⟩:=h;subst hl;have hbx:N6 X ss (λE σ H=>∃ F0 H0,tQ F0 H0 rb E σ H):=λñ s σ H E I gR=>by obtain⟨F0,H0,h⟩:=gR;exact hb F0 H0 _ s σ H E I h
 exact Iz (bV hp hc hi ht hbx hs _ s σ H _ I ⟨λx H1=>f' H H1/\DR _ _ x,tP.go S.z h1 λx H1 e1 _ q1=>⟨e1,q1⟩,λx H1 gR=>(by obtain⟨e1,a,ķ,ex,p1,p2,p3⟩:=gR;exact⟨a,ķ,ex,p1.mono (S.grow e1).le,λo H2 fz=>rB vK hg (S.grow e1) p1 p2 p3 fz h2<|p.up (ak S.le)⟩)⟩) λf s' q=>SP.Rq q
theorem SM {K:Ψ}{st:Stmt}(h:PS X st (lY (jN (zW X (tP rd)) (mG n) js (oR K n) (MY rt) (tP re)) (bU i)))(hK:K=X.K):QS X st (CD i (rL n js (Wx rd) rt re)):=by intro F0 H0 ñ s σ H E I z;obtain⟨F,ε,f,S,z,p⟩:=z;obtain⟨z⟩:=z;exact Iz (h _ s σ H (JG X E) I<|AW (tP.go S.z z λx H1 e1 _ q1=>p _ H1 _ (ak S.le)<|(S.grow e1).PN q1 i)) λf s' q=>SP.Rq q
end
section
variable {q:Ô}{rb:Rs}{α:Type}{u:α->D}
theorem oU (I:β->Ù)(g:β->α->β):∀ (xs:List α) {b:β}{ε:Ev},(∀ b x ε,x∈xs->I b ε->∃ ε1,q (u x) ε ε1/\∃ ε2,rb ε1 (.nx ε2)/\I (g b x) ε2)->I b ε->∃ ε',lJ q rb ε (xs.map u) (.nx ε')/\I (xs.foldl g b) ε'
 | [],_,ε,_,h=>⟨ε,.done,h⟩
 | x::xs,b,ε,k,h=>by obtain⟨ε1,k1,ε2,k2,k3⟩:=k b x ε E7 h;obtain⟨ε',h1,h2⟩:=oU I g xs (λb y ε hy=>k b y ε<|E6 _ hy) k3;exact⟨ε',.next k1 k2 h1,h2⟩
theorem vU (I:Ù)(c:α->Bool)(h:α->D):∀ (xs:List α){ε:Ev},(∀ x ε,x∈xs->I ε->∃ ε1,q (u x) ε ε1/\if c x=true then rb ε1 (.rt (h x)) else ∃ ε2,rb ε1 (.nx ε2)/\I ε2)->I ε->match xs.find? c with
   | some x=>lJ q rb ε (xs.map u) (.rt<|h x)
   | none=>∃ ε',lJ q rb ε (xs.map u) (.nx ε')/\I ε'
 | [],ε,_,h=>⟨ε,.done,h⟩
 | x::xs,ε,k,hI=>by
  obtain⟨ε1,k1,k2⟩:=k x ε E7 hI;rw[EO]
  cases z:c x with
  | true=>rw[z,if_pos rfl]at k2;exact .ret k1 k2
  | false=>
   rw[z,if_neg nofun]at k2;obtain⟨ε2,k3,k4⟩:=k2;have:=vU I c h xs (λy ε hy=>k y ε<|E6 _ hy) k4
   cases y:xs.find? c with
   | some w=>rw[y]at this;exact .next k1 k3 this
   | none=>rw[y]at this;obtain⟨ε',h1,h2⟩:=this;exact⟨ε',.next k1 k3 h1,h2⟩
theorem g6 (I:β->Ù)(μ:β->Nat)(h0:I b ε)(k:∀ b ε,I b ε->rt (ε.map Sl.a) false/\r2 ε f\/rt (ε.map Sl.a) true/\∃ b' ε',rb ε (.nx ε')/\I b' ε'/\μ b'<μ b):nS (rWh rt rb) r2 ε f:=by
 have go:∀ (n:Nat) {b:β}{ε:Ev},μ b<n->I b ε->∃ ε',Wh rt rb n ε (.nx ε')/\r2 ε' f:=λn=>by
  induction n with
  | zero=>exact λh=>absurd h (Ho _)
  | succ n ih=>
   intro b ε h hI;rcases k b ε hI with⟨t,h1⟩|⟨t,b',ε',k1,k2,k3⟩
   ·exact⟨ε,.done t,h1⟩
   ·obtain⟨ε2,h1,h2⟩:=ih (by omega) k2;exact⟨ε2,.next t k1 h1,h2⟩
 obtain⟨ε',h1,h2⟩:=go _ (EX _) h0;exact .nx ⟨_,h1⟩ h2
theorem yn {β:Type}(xs:List α)(I:β->Ù)(g:β->α->β){b:β}(h0:I b ε)(hl:ri (ε.map Sl.z) (xs.map u))(k:∀ b x ε,x∈xs->I b ε->∃ ε1,q (u x) ε ε1/\∃ ε2,rb ε1 (.nx ε2)/\I (g b x) ε2)(fin:∀ ε,I (xs.foldl g b) ε->r2 ε f):nS (mf ri q rb) r2 ε f:=
 let ⟨ε',h1,h2⟩:=oU I g xs k h0
 .nx (.mk hl h1) (fin ε' h2)
theorem h8 (xs:List α)(I:Ù)(c:α->Bool)(h:α->D)(h0:I ε)(hl:ri (ε.map Sl.z) (xs.map u))(k:∀ x ε,x∈xs->I ε->∃ ε1,q (u x) ε ε1/\if c x=true then rb ε1 (.rt (h x)) else ∃ ε2,rb ε1 (.nx ε2)/\I ε2)(hs:∀ x,xs.find? c=some x->f=.rt (h x))(fin:xs.find? c=none->∀ ε,I ε->r2 ε f):nS (mf ri q rb) r2 ε f:=by
 have:=vU I c h xs k h0
 cases z:xs.find? c with
 | some x=>rw[z]at this;rw[hs x z];exact .rt (.mk hl this)
 | none=>rw[z]at this;obtain⟨ε',h1,h2⟩:=this;exact .nx (.mk hl h1) (fin z ε' h2)
end
theorem bt (n:Nat):si 0 n=(List.range n).map λi=>.int (i:Int):=by unfold si;exact E9 λi _=>by rw[Int.zero_add]
theorem zc (s n:Nat):si s n=(List.range' s n).map λi=>.int (i:Int):=by rw[List.range'_eq_map_range,DL];exact E9 λi _=>by show D.int _=D.int _;rw[<- Int.natCast_add]
noncomputable abbrev rw (r:Ξ):D:=.lst (r.map .int)
noncomputable abbrev tb (t:Θ):D:=.lst (t.map rw)
theorem P9 (g:α->Int)(l:List α):Fl.rt (rw (l.map g))=.rt (.lst (l.map λx=>.int (g x))):=by rw[show rw _=.lst _ from rfl,DL];rfl
theorem tbm (g:α->Ξ)(l:List α):Fl.rt (tb (l.map g))=.rt (.lst (l.map λx=>rw (g x))):=by rw[show tb _=.lst _ from rfl,DL];rfl
theorem uh {g:α->β}{l:List α}{i:Nat}{x:α}(h:l[i]?=some x):O3 (l.map g) (i:Int)=some (g x):=kz (by rw[DN,h];rfl)
theorem dm {l:Ξ}(h:i<l.length):O3 (l.map D.int) (i:Int)=some (.int (l.getD i 0)):=uh (by rw[DG,DF h];rfl)
theorem y6 {t:Θ}(h:i<t.length):O3 (t.map rw) (i:Int)=some (rw (t.getD i [])):=uh (by rw[DG,DF h];rfl)
theorem eU {t:List α}{z:α}(h:i<t.length):t.getD i z∈t:=by rw[DG,DF h];exact EB h
theorem ne_int (ha:ra ε (.int i))(hb:rb ε (.int j)):rO (fE true) ra rb ε (.bl (decide (i≠j))):=.mk ha hb (.mk rfl rfl rfl (congrArg _ (by
 by_cases c:i=j
 ·subst c;simp
 ·rw[DM c,DQ λz=>c<|by injection z];rfl)))
theorem eq_int (ha:ra ε (.int i))(hb:rb ε (.int j)):rO (fE false) ra rb ε (.bl (decide (i=j))):=.mk ha hb (.mk rfl rfl rfl (congrArg _ (by
 rw[if_neg nofun];by_cases c:i=j
 ·subst c;simp
 ·rw[DQ c,DQ λz=>c<|by injection z])))
noncomputable def Bg:Option Nat->D
 | none=>.non
 | some a=>.int (a:Int)
theorem cR (k:Nat):wo l none (some (k:Int))=l.take k:=by unfold wo;rw[HT.Pj,HT.NA,List.drop_zero,List.take_eq_take_iff];omega
theorem iN (k:Nat):wo l (some (k:Int)) none=l.drop k:=by
 unfold wo;rw[HT.Pj,HT.NA,Ff (by rw[GI];omega)];by_cases h:k<=l.length
 ·rw[Nat.min_eq_left h]
 ·rw[Nat.min_eq_right<|by omega,List.drop_eq_nil_of_le<|DV _,List.drop_eq_nil_of_le<|by omega]
section
variable {α:Type}{u:α->D}
abbrev _root_.Õ:=Nat->Ù
theorem xN {ok:D->Prop}:∀ (xs:List α)(I:Õ){ε:Ev},I 0 ε->(∀ i x ε,xs[i]?=some x->I i ε->∃ ε1,q (u x) ε ε1/\((∃ d,rb ε1 (.rt d)/\ok d)\/∃ ε2,rb ε1 (.nx ε2)/\I (i+1) ε2))->(∃ d,lJ q rb ε (xs.map u) (.rt d)/\ok d)\/∃ ε',lJ q rb ε (xs.map u) (.nx ε')/\I xs.length ε'
 | [],I,ε,h,_=>.inr ⟨ε,.done,h⟩
 | x::xs,I,ε,h,k=>by
  obtain⟨ε1,k1,⟨d,k2,k3⟩|⟨ε2,k2,k3⟩⟩:=k 0 x ε rfl h
  ·exact .inl ⟨d,.ret k1 k2,k3⟩
  ·rcases xN (ok:=ok) xs (λi=>I<|i+1) k3 (λi y ε hy=>k (i+1) y ε<|by simpa using hy) with⟨d,h1,h2⟩|⟨ε',h1,h2⟩
   ·exact .inl ⟨d,.next k1 k2 h1,h2⟩
   ·exact .inr ⟨ε',.next k1 k2 h1,h2⟩
theorem xM (xs:List α)(I:Õ)(h0:I 0 ε)(hl:ri (ε.map Sl.z) (xs.map u))(k:∀ i x ε,xs[i]?=some x->I i ε->∃ ε1,q (u x) ε ε1/\∃ ε2,rb ε1 (.nx ε2)/\I (i+1) ε2):∃ ε',mf ri q rb ε (.nx ε')/\I xs.length ε':=by
 rcases xN (ok:=λ_=>False) xs I h0 (λi x ε h h'=>let ⟨ε1,a,b⟩:=k i x ε h h';⟨ε1,a,.inr b⟩) with⟨_,_,z⟩|⟨ε',h1,h2⟩
 ·exact z.elim
 ·exact⟨ε',.mk hl h1,h2⟩
theorem eZ (xs:List α)(I:Õ)(h0:I 0 ε)(hl:ri (ε.map Sl.z) (xs.map u))(k:∀ i x ε,xs[i]?=some x->I i ε->∃ ε1,q (u x) ε ε1/\∃ ε2,rb ε1 (.nx ε2)/\I (i+1) ε2)(fin:∀ ε,I xs.length ε->r2 ε f):nS (mf ri q rb) r2 ε f:=
 let ⟨ε',h1,h2⟩:=xM xs I h0 hl k
 .nx h1 (fin ε' h2)
theorem AJ (xs:List α)(I:Õ)(h0:I 0 ε)(hl:ri (ε.map Sl.z) (xs.map u))(k:∀ i x ε,xs[i]?=some x->I i ε->∃ ε1,q (u x) ε ε1/\((∃ d,rb ε1 (.rt d)/\f=.rt d)\/∃ ε2,rb ε1 (.nx ε2)/\I (i+1) ε2))(fin:∀ ε,I xs.length ε->r2 ε f):nS (mf ri q rb) r2 ε f:=by
 rcases xN xs I h0 k with⟨d,h1,rfl⟩|⟨ε',h1,h2⟩
 ·exact .rt (.mk hl h1)
 ·exact .nx (.mk hl h1) (fin ε' h2)
end
section
variable {α:Type}{u:α->D}{J:Ù}
theorem oW (h1:r1 ε (.nx ε1))(h2:∃ ε',r2 ε1 (.nx ε')/\J ε'):∃ ε',nS r1 r2 ε (.nx ε')/\J ε':=let ⟨ε',a,b⟩:=h2;⟨ε',.nx h1 a,b⟩
theorem YW {β:Type}(xs:List α)(I:β->Ù)(g:β->α->β){b:β}(h0:I b ε)(hl:ri (ε.map Sl.z) (xs.map u))(k:∀ b x ε,x∈xs->I b ε->∃ ε1,q (u x) ε ε1/\∃ ε2,rb ε1 (.nx ε2)/\I (g b x) ε2)(fin:∀ ε',I (xs.foldl g b) ε'->J ε'):∃ ε',mf ri q rb ε (.nx ε')/\J ε':=
 let ⟨ε',h1,h2⟩:=oU I g xs k h0
 ⟨ε',.mk hl h1,fin ε' h2⟩
theorem W4 (xs:List α)(I:Õ)(h0:I 0 ε)(hl:ri (ε.map Sl.z) (xs.map u))(k:∀ i x ε,xs[i]?=some x->I i ε->∃ ε1,q (u x) ε ε1/\∃ ε2,rb ε1 (.nx ε2)/\I (i+1) ε2)(fin:∀ ε',I xs.length ε'->J ε'):∃ ε',mf ri q rb ε (.nx ε')/\J ε':=
 let ⟨ε',h1,h2⟩:=xM xs I h0 hl k
 ⟨ε',h1,fin ε' h2⟩
end
theorem be {l:List α}{x:α}(h:l[i]?=some x):l.take (i+1)=l.take i++[x]:=by rw[F8,h];rfl
theorem gt_int (ha:ra ε (.int i))(hb:rb ε (.int j)):rO (fI (λ_ _=>True) λi j=>PV (.bl (decide (j<i)))) ra rb ε (.bl (decide (j<i))):=⟨ha,hb,⟨trivial⟩⟩
theorem lt_int (ha:ra ε (.int i))(hb:rb ε (.int j)):rO (fI (λ_ _=>True) λi j=>PV (.bl (decide (i<j)))) ra rb ε (.bl (decide (i<j))):=⟨ha,hb,⟨trivial⟩⟩
theorem jU (h:(List.range n)[i]?=some x):i=x/\i<n:=by obtain⟨h1,h2⟩:=DJ.mp h;rw[Er]at h1;rw[List.getElem_range]at h2;exact⟨h2,h1⟩
theorem gS {l:List α}{f:α->Key}{g:α->D}:cI (l.map λx=>(f x,g x)) k=(l.find? λx=>decide (f x=k)).map g:=by unfold cI;rw[List.find?_map,Option.map_map];rfl
theorem kS:D.str x=kD (.inr x):=rfl
theorem kI:D.int i=kD (.inl i):=rfl
theorem YF:(cI ð k).isSome=true ↔ k∈ð.map (·.1):=by unfold cI;rw[GS,GY,DI];exact⟨λgR=>(by obtain⟨p,a,b⟩:=gR;exact⟨p,a,DZ b⟩),λgR=>(by obtain⟨p,a,b⟩:=gR;exact⟨p,a,DM b⟩)⟩
theorem VS {l:List α}{f:α->Str}{g:α->D}:(cI (l.map λx=>(.inr (f x),g x)) (.inr y)).isSome=decide (y∈l.map f):=by rw[Fe,YF,DL,FC,DI,DI];exact⟨λgR=>(by obtain⟨p,a,b⟩:=gR;exact⟨p,a,Sum.inr.inj b⟩),λgR=>(by obtain⟨p,a,b⟩:=gR;exact⟨p,a,congrArg _ b⟩)⟩
theorem VT {l:List α}{f:α->Int}{g:α->D}:(cI (l.map λx=>(.inl (f x),g x)) (.inl y)).isSome=decide (y∈l.map f):=by rw[Fe,YF,DL,FC,DI,DI];exact⟨λgR=>(by obtain⟨p,a,b⟩:=gR;exact⟨p,a,Sum.inl.inj b⟩),λgR=>(by obtain⟨p,a,b⟩:=gR;exact⟨p,a,congrArg _ b⟩)⟩
theorem dY (h:k∉ð.map (·.1)):sW ð k d=ð++[(k,d)]:=if_neg λz=>h (let ⟨p,a,b⟩:=List.any_eq_true.mp z;DI.mpr ⟨p,a,DZ b⟩)
inductive YT:D->D->D->Prop
 |mk {x:D}{k:Nat}:k<=1000->YT (.lst [x]) (.int k) (.lst (List.replicate k x))
theorem qH:P1 YT Xt:=λF H x y u v d Q s z hu hv q=>by
 obtain @⟨x,k,hk⟩:=z;obtain⟨a,vs,rfl,p1,w,ws,rfl,p2,rfl⟩:=hu;refine⟨a,k,[w],rfl,hv,s _ _ p1,by omega,by omega,?_,λp n=>q _ _ (aV (f'.refl _) n) ⟨p,_,rfl,by rw[aw n,ag],Ij.mono (ak s) _ _ ?_⟩⟩
 ·exact Ei (by simpa using hk) (by decide +kernel:1000<=sizeLine)
 ·clear hk q hv
  induction k with
  | zero=>rfl
  | succ k ih=>exact⟨w,_,rfl,p2,ih⟩
theorem dj {α:Type}{xs:List α}{u h:α->D}(hi:ri ε (xs.map u))(hl:xs.length<=1000)(k:∀ x∈xs,∃ l,WW n (u x) l/\re (l.map some++js.map λj=>(ε[j]?).join) (h x))(e:d=.lst (xs.map h)):rL n js ri AU re ε d:=e▸aR hi hl k
theorem M0.m {g:α->D}{x:List α}:M0 [.lst (x.map g)] (.int x.length):=by rw[<- DH (f:=g)];exact .s (.sq .lst)
theorem vQ (i:Int):∀ (ks:Ξ),Sa (.int i) ((ks.map D.int).map fv)=decide (i∈ks)
 | []=>rfl
 | k::ks=>by have ih:=vQ i ks;unfold Sa at ih ⊢;rw[DX,DX,Gz,ih,Fe];show ((k==i) || decide (i∈ks))=true ↔ _;simp only[Gy,FZ,E3,FK];exact⟨λh=>h.imp Eq.symm id,λh=>h.imp Eq.symm id⟩
theorem kg:RX n (.int i) (rw ks) (.bl (if n=true then !decide (i∈ks) else decide (i∈ks))):=.s ⟨.sq .lst,rfl,by rw[Hw,Fs];exact λ_ _=>rfl,by rw[show Sa (fv<|.int i) _=decide _ from vQ i ks]⟩
theorem rf (i:Str):∀ (ks:η),Sa (.str i) ((ks.map D.str).map fv)=decide (i∈ks)
 | []=>rfl
 | k::ks=>by have ih:=rf i ks;unfold Sa at ih ⊢;rw[DX,DX,Gz,ih,Fe];show ((k==i) || decide (i∈ks))=true ↔ _;simp only[Gy,FZ,E3,FK];exact⟨λh=>h.imp Eq.symm id,λh=>h.imp Eq.symm id⟩
theorem mX {ks:η}:RX n (.str i) (.lst (ks.map .str)) (.bl (if n=true then !decide (i∈ks) else decide (i∈ks))):=.s ⟨.sq .lst,rfl,by rw[Hw,Fs];exact λ_ _=>rfl,by rw[show Sa (fv<|.str i) _=decide _ from rf i ks]⟩
theorem Itm.m {l:List α}{f:α->Key}{g:α->D}:Itm (Jq (l.map λx=>(f x,g x))) (l.map λx=>kD (f x)):=by have:=Itm.k (ð:=l.map λx=>(f x,g x));rw[DL]at this;exact this
theorem fO (nd:(ð.map (·.1)).Nodup)(h:(k,d)∈ð):cI ð k=some d:=by
 unfold cI
 induction ð with
 | nil=>cases h
 | cons kv l ih=>
  have nd:=Ex.mp nd;rcases E3.mp h with z|z
  ·rw[<- z,List.find?_cons_of_pos<|by simp];rfl
  ·rw[List.find?_cons_of_neg (by simp only[FZ];exact λy=>nd.1<|DI.mpr ⟨_,z,y.symm⟩)];exact ih nd.2 z
theorem lu:∀ {more ð:ι},((ð++more).map (·.1)).Nodup->gu ð more=ð++more
 | [],ð,_=>(El _).symm
 | kv::more,ð,nd=>by
  unfold gu;rw[Gw,dY λz=>by rw[DP,DX,Ej]at nd;exact nd.2.2 _ z _ E7 rfl]
  have:=lu (more:=more) (ð:=ð++[kv]) (by rwa [Ez]);rwa [Ez]at this
theorem Sw.m {l:List α}{f:α->Key}{g:α->D}(h:l.length<=1000)(nd:(l.map f).Nodup):Sw [.lst (l.map λx=>.tup [kD (f x),g x])] (Jq (l.map λx=>(f x,g x))):=by have:=Sw.p (ð:=l.map λx=>(f x,g x)) (by simpa using h);rw[lu (by rw[EW,DL];exact nd)]at this;unfold prs at this;rw[DL]at this;exact this
theorem De (h:q<n):RF n (q:Int)=some q:=by unfold RF;rw[if_pos<|Int.natCast_nonneg q];simp[h]
noncomputable def Tu (R:Ä):Sp:=λvs H Q _=>∃ F l d,f' F H/\Ij F l vs/\R l d/\∀ a H',f' H H'->H a=none->Q8 (bg a (grow F H H')) H' d a->Q (.ref a) H'
theorem Tu.p (h:Pr R vs H Q E):Tu R vs H Q E:=let ⟨F,l,d,s,a,b,q⟩:=h
 ⟨F,l,d,s,a,b,λa H' e n w=>q _ H' e (w.dr IG λo z=>by rw[aw n];exact z)⟩
theorem gO {X:Cx}{o:Expr}{ra:Rx}{k:Nat}{C:Addr}{m:Str}{ps:η}{R:Ä}{pos apos:Pos}{pl:Sem Bool} (he:PE X o (tP ra)) (Dd:Dm X.prog X.w X.K X.mg X.base k C m ps (Pr R)) (hr:IA k X.A)
  (ht:autoParam (eval (.Call (.Attribute o m apos) [] [] pos) X.env=(do
   let ov <- eval o X.env
   standAt apos.atName
   let (f,first) <- holding [ov] (getMethod ov m pl)
   callWith pos f first (backTo pos (starEach [] X.env)) (backToKw pos (keywordEach [] X.env)))) ŕ):PE X (.Call (.Attribute o m apos) [] [] pos) (tP (CI (·=C) m (λ_=>R) ra)):=Dq he (λC' h=>by cases h;exact Dd) hr ht
theorem dFN (Dd:Df X.prog X.w X.K X.mg X.base k x ps (Tu R))(hr:IA k X.A)(hg:Gl X x)(ha:PA X (e::es) (KU rs))(Mb:autoParam (Ė x) ĩ)(he:autoParam (Ĕ X e es) ŕ)(L':autoParam (Ē X pos es) ŕ):
  PE X (.Call (.Name x p) (e::es) [] pos) (tN (rF R rs)):=(b7 Dd hr hg ha Mb he L').imp λσ H Q ⟨F,ε,d,S,⟨h1,h2⟩,q⟩=>KU.go S h1 λxs H1 e1 S1 q1=>by
 rw[El];refine⟨_,_,d,S1.le,q1,h2,λa H2 e2 n w=>q a H2 (e1.trans e2) ?_ ?_⟩
 ·cases y:H a with
  | none=>rfl
  | some o=>rw[e1 _ _ y]at n;cases n
 ·rwa [au e1 e2]at w
theorem dLN (n:Nat)(hc:X.calm=true)(S:bv X scope (mG n) js N')(hi:PI X tg iter (tI ri))(hg:∀ cells C s H fp,PG (aB X scope N' cells C s H fp) tg (oR X.K n))(ht:∀ cells C s H fp,Me (aB X scope N' cells C s H fp) ifs (MY rt))(he:∀ cells C s H fp,PE (aB X scope N' cells C s H fp) elt (tP re))(hs:autoParam (ĕ X iter) ŏ):PE X (.ListComp elt [⟨tg,iter,ifs,0⟩] scope pos) (tN (rL n js ri rt re)):=(eO hc S hi hg ht he hs).imp λ_ _ _=>CJ
section
variable {K:Ψ}
theorem Iy.dvN {k:Nat}{st:Stmt}(F:Iy K x ğ st f fd)(S:ae N ps (a8 st))(hb:aH st=[.Return (some e) pos])(t:∀ l d,R l d->l.length=ps.length/\re ((ent N.length l).map Sl.a) d)(b:∀ (HU:Value)(A:Ë)(outer:List Env)(s:Ê)(H:Hp)(E:XK),IA k (A.deeper (envOfC ğ (a8 st) s.heap.objs.size f HU))->PE (mN Ik P w K mg base N ğ (a8 st) f HU A outer s H E).QH e (tN re)):HP P w K mg base Ik (k+1) f fd ps (Tu R):=
 F.ok S (λvs H Q E gR=>(by obtain⟨_,l,d,_,hl,hR,_⟩:=gR;rw[hl.length,(t l d hR).1])) λHU A outer s H vs Q E hr gR=>by obtain⟨F,l,d,sm,hl,hR,q⟩:=gR;exact⟨_,hb▸ar (bJ<|b HU A _ s H E hr),_,_,d,(xP N sm hl).a,(t l d hR).2,λa H' e n w=>q a H' e n<|by rwa [au (f'.refl _) e]at w⟩
theorem Df.p (h:Df P w K mg base k x ps (Tu R)):Df P w K mg base k x ps (Pr R):=let ⟨f,fd,a,b,c,d⟩:=h;⟨f,fd,a,b,c,d.imp λ_ _ _ _=>Tu.p⟩
end
inductive cDk:Ä
 |mk {ð:ι}:cDk [Jq ð] (Jq (gu [] ð))
theorem a28 (hc:X.calm=true)(hg:Gl X "dict")(hm:X.mg "dict"=none)(ha:PA X (e::es) (KU rs))(hn:autoParam (("dict":Str)≠"__name__") ĩ)(Mb:autoParam ((("dict":Str)==("__debug__":Str))=false) ĩ)(he:autoParam (Ĕ X e es) ŕ)(L':autoParam (Ē X pos es) ŕ):PE X (.Call (.Name "dict" p) (e::es) [] pos) (tN (rF cDk rs)):=(fS (eA hc) hg hm boot_dict ha hn Mb he L').imp λσ H Q ⟨F,ε,d,S,⟨h1,h2⟩,q⟩=>KU.go S h1 λxs H1 e1 S1 q1=>by
 cases h2;obtain⟨v,ws,rfl,⟨a,ķ,rfl,p1,p2,p3⟩,rfl⟩:=q1;refine .inl ⟨a,ķ,rfl,p1.mono S1.le,λp H2 e2 n z=>?_⟩;have n0:=e1.free n;have m:=mT (F:=bg p<|grow F H H2) (ð:=[]) (ķ:=[]) p2 (p3.mono λb o y=>?_) rfl rfl
 ·exact q p H2 (e1.trans e2) n0 ⟨_,z,m.1,m.2⟩
 ·by_cases c:b=p
  ·subst c;rw[aw n0,n]at y;cases y
  ·rw[bN c];unfold grow at y ⊢;by_cases w:H b=none
   ·rw[if_pos w]at y ⊢;exact e2 _ _ y
   ·rw[if_neg w]at y ⊢;exact y
end L2
namespace K92
open PySem L2
open PyProof.Rows (boot_all boot_bool boot_dict boot_int boot_list boot_sorted boot_str boot_tuple)
structure Txt (K:Ψ) (mg:Ω) (C:Addr):Prop where
 cl:LF K C
 nP:IE K C "prime"
 Ir:mg "range"=none
 Kw:mg "zip"=none
 XT:mg "sum"=none
 IH:mg "len"=none
noncomputable abbrev fD (C:Addr)(p:Int):D:=.ins C ["prime"] [.int p]
section
variable {w:World}{C:Addr}
theorem Txt.fl (T:Txt K mg C):∀ C',C'=C->LF K C'/\IE K C' "prime":=λC' h=>h▸⟨T.cl,T.nP⟩
inductive Nx (C:Addr):Ä
 |mk {p n:Int}:0<p->Nx C [fD C p,.int n] (.int (n % p))
noncomputable abbrev AO:Stmt:=aF (top 36) 1
theorem UR:ae å å (a8 AO):=IM
theorem Vc (F:Iy K "fit" "Field.fit" AO f fd)(T:Txt K mg C):HP P w K mg base Ik 1 f fd å (Pr (Nx C)):=by
 have Kz:=T.fl;refine F.dv UR ?_ λHU A _ s H E hr=>(q1<|qR (dO bK NB (Đ 1)<|PH Kz (Đ 0)))
 rintro _ _ ⟨hp⟩;exact⟨rfl,.inl ⟨⟨rfl,⟨rfl,rfl,rfl⟩,⟨hp⟩⟩,rfl⟩⟩
inductive iD (C:Addr):Ä
 |mk {p:Int}{xs ys:Ξ}:0<p->p<=1000000->xs.length<=1000->(∀ x∈xs,0<=x/\x<p)->iD C [fD C p,rw xs,rw ys] (.int (Mx.Ig p xs ys))
noncomputable abbrev kR:Stmt:=top 38
theorem wU:ae ì ì (a8 kR):=IM
theorem jI (f:α->γ)(g:β->δ):∀ (xs:List α)(ys:List β),(xs.map f).zip (ys.map g)=(xs.zip ys).map λz=>(f z.1,g z.2)
 | [],_=>rfl
 | _::_,[]=>rfl
 | _::xs,_::ys=>by rw[DX,DX,HB,jI f g xs ys];rfl
theorem iH (xs ys:Ξ):((xs.zip ys).map λz=>D.tup [.int z.1,.int z.2])=((xs.map D.int).zip (ys.map D.int)).map λz=>.tup [z.1,z.2]:=by rw[jI,DL];rfl
theorem kr:∀ (xs ys:Ξ),((xs.zip ys).map λz=>z.1 * z.2).sum=Mx.dot xs ys
 | [],_=>by simp[Mx.dot]
 | _::_,[]=>by simp[Mx.dot]
 | x::xs,y::ys=>by rw[HB,DX,List.sum_cons,kr xs ys];rfl
theorem xg (F:Iy K "row_sum" "row_sum" kR f fd)(T:Txt K mg C)(HQ:Dm P w K mg base 1 C "fit" å (Pr (Nx C))):HP P w K mg base Ik 3 f fd ì (Pr (iD C)):=by
 refine F.dv wU ?_ λHU A _ s H E hr=>(q1 (qR (Nq (Đ 0) HQ hr.m (da (dB Wc (Al rfl) rfl T.XT Cf (da (dL 2 rfl (cS 2 [] ["mine","theirs"]) (iZ rfl T.Kw<|da (Đ 1) (da (Đ 2) HS))
  (λ_ _ _ _ _=>cr K rfl<|af (pC 0) (af (pC 1) aD))
  (λ_ _ _ _ _=>Lp)
  (λ_ _ _ _ _=>dO cC NB (Đ 0)<|Đ 1)) HS)) HS))))
 rintro _ _ @⟨p,xs,ys,hp,OB,hl,hx⟩;refine⟨rfl,.inl ⟨⟨rfl,by decide,⟨⟨⟨aR ⟨_,_,⟨rfl,rfl,rfl⟩,iH xs ys⟩ (by rw[Fd];omega) λz hz=>⟨_,⟨rfl,rfl⟩,rfl,rfl,⟨?_⟩⟩,rfl⟩,.mk (by rw[DL];rfl)⟩,rfl⟩,⟨hp⟩⟩,?_⟩⟩
 ·have:=hx z.1 (FO hz).1;exact .inl ⟨by omega,by omega⟩
 ·rw[kr,<- Mx.Iv]
abbrev Cs:=List (Int×Int)
noncomputable abbrev Pa (cs:Cs):D:=Jq (cs.map λx=>(.inl x.1,.int x.2))
noncomputable def aA (cs:Cs)(k:Int):Ó:=(cs.find? λx=>decide (x.1=k)).map (·.2)
theorem sg (h:aA cs k=some n):cI (cs.map λx=>((.inl x.1:Key),D.int x.2)) (.inl k)=some (.int n):=by obtain⟨x,h1,h2⟩:=EG.mp h;rw[gS,funext λx=>FD.mpr ⟨Sum.inl.inj,congrArg _⟩,h1,<- h2];rfl
inductive kF:Ä
 |l {t:Θ}{k:Nat}:t.length<=1000->(∀ r∈t,k<r.length)->kF [tb t,.int k] (rw (Mx.col t k))
 |d {α:Type}{l:List α}{g:α->Cs}{h:α->Int}{k:Int}:l.length<=1000->(∀ x∈l,aA (g x) k=some (h x))->kF [.lst (l.map λx=>Pa (g x)),.int k] (rw (l.map h))
noncomputable abbrev nL:Stmt:=top 39
theorem zr:ae ć ć (a8 nL):=IM
theorem zI (F:Iy K "column" "column" nL f fd):HP P w K mg base Ik 1 f fd ć (Pr kF):=by
 refine F.dv zr ?_ λHU A _ s H E hr=>(q1 (qR (Od 0 rfl (cS 1 [1] ["row","place"]) (ax<|Đ 0)
  (λ_ _ _ _ _=>pC 0)
  (λ_ _ _ _ _=>Lp)
  (λ_ _ _ _ _=>dS (ao hr) (Đ 0)<|Đ 1))))
 intro _ _ h
 cases h with
 | @l t k hl hk=>exact⟨rfl,.inl ⟨aR ⟨rfl,.l .lst⟩ hl λr hr=>⟨_,rfl,rfl,rfl,.l .lst<|dm (hk r hr)⟩,P9 _ _⟩⟩
 | @d α l g h k hl hk=>exact⟨rfl,.inl ⟨aR ⟨rfl,.l .lst⟩ hl λx hx=>⟨_,rfl,rfl,rfl,.k (sg<|hk x hx) kI⟩,P9 _ _⟩⟩
inductive iO:Ä
 |mk {n i:Nat}:n<=1000->iO [.int n,.int i] (rw (Mx.HL n i))
noncomputable abbrev jc:Stmt:=top 41
theorem uK:ae ď ď (a8 jc):=IM
theorem v8 (F:Iy K "ones_row" "ones_row" jc f fd)(T:Txt K mg C):HP P w K mg base Ik 1 f fd ď (Tu iO):=by
 refine F.dvN uK rfl ?_ λHU A _ s H E hr=>(dLN 0 rfl (cS 1 [1] ["place","own"]) (QN rfl T.Ir<|da (Đ 0) HS)
  (λ_ _ _ _ _=>pC 0)
  (λ_ _ _ _ _=>Lp)
  (λ_ _ _ _ _=>Th (dT bf cF (Đ 0)<|Đ 1) (dC aa)<|dC aa))
 rintro _ _ @⟨n,i,hn⟩;refine⟨rfl,?_⟩;rw[show rw _=.lst ((List.range n).map λj=>.int<|if j=i then 1 else 0) from D.lst.inj (Fl.rt.inj<|P9 _ _)▸rfl];refine aR ⟨n,hn,⟨rfl,rfl⟩,(bt n).symm⟩ (by simpa using hn) λj _=>⟨_,rfl,?_⟩
 have rd:=eq_int (ε:=[some<|.int j,some<|.int i]) (ra:=rV 0) (rb:=rV 1) rfl rfl;by_cases c:j=i
 ·rw[DM<|by rw[c]]at rd;exact .t rd (by rw[if_pos c];rfl)
 ·rw[DQ<|by omega]at rd;exact .f rd (by rw[if_neg c];rfl)
inductive sd:Ä
 |mk {n:Nat}:n<=1000->sd [.int n] (tb (Mx.ones n))
noncomputable abbrev wX:Stmt:=top 42
theorem Cz:ae č č (a8 wX):=IM
theorem D1 (F:Iy K "ones" "ones" wX f fd)(T:Txt K mg C)(J':Df P w K mg base 1 "ones_row" ď (Tu iO)):HP P w K mg base Ik 2 f fd č (Pr sd):=by
 have J':=J'.p;refine F.dv Cz ?_ λHU A _ s H E hr=>(q1 (qR (dL 0 rfl (cS 1 [0] ["own","many"]) (QN rfl T.Ir<|da (Đ 0) HS)
  (λ_ _ _ _ _=>pC 0)
  (λ_ _ _ _ _=>Lp)
  (λ_ _ _ _ _=>dF J' hr.m rfl<|da (Đ 1) (da (Đ 0) HS)))))
 rintro _ _ @⟨n,hn⟩;exact⟨rfl,.inl ⟨aR ⟨n,hn,⟨rfl,rfl⟩,(bt n).symm⟩ (by simpa using hn) λj _=>⟨_,rfl,⟨rfl,rfl,rfl⟩,⟨hn⟩⟩,tbm _ _⟩⟩
inductive pA (C:Addr):Ä
 |mk {p a b:Int}:0<p->R9 a b->pA C [fD C p,.int a,.int b] (.int (a * b % p))
noncomputable abbrev sK:Stmt:=aF (top 36) 4
theorem AK:ae à à (a8 sK):=IM
theorem Bj (F:Iy K "times" "Field.times" sK f fd)(HQ:Dm P w K mg base 1 C "fit" å (Pr (Nx C))):HP P w K mg base Ik 2 f fd à (Pr (pA C)):=by
 refine F.dv AK ?_ λHU A _ s H E hr=>(q1<|qR (Nq (Đ 0) HQ hr.m<|da (dO cC NB (Đ 1)<|Đ 2) HS))
 rintro _ _ ⟨hp,hc⟩;exact⟨rfl,.inl ⟨⟨rfl,by decide,⟨⟨rfl,rfl,⟨hc⟩⟩,rfl⟩,⟨hp⟩⟩,rfl⟩⟩
inductive uq (C:Addr):Ä
 |mk {p a b:Int}:0<p->uq C [fD C p,.int a,.int b] (.int ((a - b) % p))
noncomputable abbrev sL:Stmt:=aF (top 36) 3
theorem AL:ae à à (a8 sL):=IM
theorem Bl (F:Iy K "minus" "Field.minus" sL f fd)(HQ:Dm P w K mg base 1 C "fit" å (Pr (Nx C))):HP P w K mg base Ik 2 f fd à (Pr (uq C)):=by
 refine F.dv AL ?_ λHU A _ s H E hr=>(q1<|qR (Nq (Đ 0) HQ hr.m<|da (dO tj gr (Đ 1)<|Đ 2) HS))
 rintro _ _ ⟨hp⟩;exact⟨rfl,.inl ⟨⟨rfl,by decide,⟨⟨rfl,rfl,⟨trivial⟩⟩,rfl⟩,⟨hp⟩⟩,rfl⟩⟩
inductive Kk (C:Addr):Ä
 |mk {p:Int}{r:Ξ}:0<p->r.length<=1000->Kk C [fD C p,rw r] (rw (r.map (· % p)))
noncomputable abbrev g9:Stmt:=top 43
theorem pP:ae ["field","row"] ["field","row"] (a8 g9):=IM
theorem pY (F:Iy K "fitted_row" "fitted_row" g9 f fd)(HQ:Dm P w K mg base 1 C "fit" å (Pr (Nx C))):HP P w K mg base Ik 2 f fd ["field","row"] (Pr (Kk C)):=by
 refine F.dv pP ?_ λHU A _ s H E hr=>(q1 (qR (Od 0 rfl (cS 1 [0] ["number","field"]) (ax<|Đ 1)
  (λ_ _ _ _ _=>pC 0)
  (λ_ _ _ _ _=>Lp)
  (λ_ _ _ _ _=>Nq (Đ 1) HQ hr.m<|da (Đ 0) HS))))
 rintro _ _ @⟨p,r,hp,hl⟩;exact⟨rfl,.inl ⟨aR ⟨rfl,.l .lst⟩ hl λx _=>⟨_,rfl,rfl,by decide,⟨rfl,rfl⟩,⟨hp⟩⟩,P9 _ _⟩⟩
inductive uj (C:Addr):Ä
 |mk {p k:Int}{r:Ξ}:0<p->0<=k->k<=1000000->r.length<=1000->uj C [fD C p,rw r,.int k] (rw (Mx.scaled p r k))
noncomputable abbrev nG:Stmt:=top 45
theorem zq:ae ý ý (a8 nG):=IM
theorem zE (F:Iy K "scaled" "scaled" nG f fd)(Iu:Dm P w K mg base 2 C "times" à (Pr (pA C))):HP P w K mg base Ik 3 f fd ý (Pr (uj C)):=by
 refine F.dv zq ?_ λHU A _ s H E hr=>(q1 (qR (Od 0 rfl (cS 1 [0,2] ["mine","field","number"]) (ax<|Đ 1)
  (λ_ _ _ _ _=>pC 0)
  (λ_ _ _ _ _=>Lp)
  (λ_ _ _ _ _=>Nq (Đ 1) Iu hr.m<|da (Đ 2) (da (Đ 0) HS)))))
 rintro _ _ @⟨p,k,r,hp,h0,h1,hl⟩;exact⟨rfl,.inl ⟨aR ⟨rfl,.l .lst⟩ hl λx _=>⟨_,rfl,rfl,by decide,⟨rfl,rfl,rfl⟩,⟨hp,.inl ⟨by omega,by omega⟩⟩⟩,P9 _ _⟩⟩
inductive LM:Ä
 |mk {t:Θ}{st q:Nat}:t.length<=1000->st<=t.length->q<=1000->(∀ r∈t,q<r.length)->LM [tb t,.int st,.int q] (Bg (Mx.J4 t st q))
noncomputable abbrev ja:Stmt:=top 44
theorem Nk:ae ["rows","start","place","at"] ["rows","start","place"] (a8 ja):=IM
theorem v6 (F:Iy K "row_with" "row_with" ja f fd)(T:Txt K mg C):HP P w K mg base Ik 1 f fd ["rows","start","place"] (Pr LM):=by
 have ND:=Nk.nd;refine F.dv Nk ?_ λHU A outer s H E hr=>(qC (qL E1 rfl (iR2 rfl T.Ir<|da (Đ 1) (da (dB b5 aG rfl T.IH boot_len<|da (Đ 0) HS) HS)) (pN 3 ND) (aN 3)
  (q1 (qI (dT oh xt (dS (ao hr) (dS (ao hr) (Đ 0)<|Đ 3)<|Đ 2)<|dC aa)
  (q1<|qR (Đ 3))
  q0)))
 (q1<|qR (dC b6)))
 rintro _ _ @⟨t,st,q,hl,hs,hq,hw⟩;refine⟨rfl,.inl ?_⟩;refine h8 _ (λε=>∃ o,ε=[.fz<|tb t,.fz<|.int st,.fz<|.int q,o]) (λa=>decide (Mx.e (t.getD a []) q≠0)) (λa=>.int (a:Int)) ⟨_,rfl⟩ ⟨st,t.length,by omega,hl,⟨rfl,⟨⟨rfl,rfl⟩,by rw[<- DH];exact .s<|.sq .lst⟩,rfl⟩,(zc _ _).symm⟩ (λa ε ha gR=>?_) (λa h=>by unfold Mx.J4;rw[h];rfl) λh ε _=>⟨rfl,by unfold Mx.J4;rw[h];rfl⟩
 obtain⟨o,he⟩:=gR;subst he;have ha:=List.mem_range'_1.mp ha;have hr:=hw _<|eU (z:=[]) (by omega:a<t.length);refine⟨_,rfl,?_⟩;have rd:=ne_int (ε:=([Sl.fz<|tb t,.fz<|.int st,.fz<|.int q,o].set 3<|.fz (.int a)).map Sl.a) (ra:=rO Sub (rO Sub (rV 0)<|rV 3)<|rV 2) (rb:=rC<|.int 0) ⟨⟨rfl,rfl,.l .lst<|y6 (by omega)⟩,rfl,.l .lst<|dm hr⟩ rfl
 cases c:decide (Mx.e (t.getD a []) q≠0) with
 | false=>rw[c]at rd;exact⟨_,.f rd rfl,_,rfl⟩
 | true=>rw[c]at rd;exact .t rd ⟨rfl,rfl⟩
inductive pp (C:Addr):Ä
 |mk {p:Int}{r ld:Ξ}{q:Nat}:0<p->p<=1000000->r.length<=1000->q<r.length->Mx.JB p r->pp C [fD C p,rw r,rw ld,.int q] (rw (Mx.without p r ld q))
noncomputable abbrev kQ:Stmt:=top 46
theorem NN:ae ["field","row","lead","place","often"] ā (a8 kQ):=IM
theorem xf (F:Iy K "without" "without" kQ f fd)(T:Txt K mg C)(Iu:Dm P w K mg base 2 C "times" à (Pr (pA C)))(J3:Dm P w K mg base 2 C "minus" à (Pr (uq C))):HP P w K mg base Ik 3 f fd ā (Pr (pp C)):=by
 have ND:=NN.nd;refine F.dv NN ?_ λHU A outer s H E hr=>(qC (qS (pS 4 ND<|dS (ao hr) (Đ 1) (Đ 3)) λ_ _ _ h=>h)
 (qC (qI (dT bf cF (Đ 4)<|dC aa)
  (q1<|qR (Đ 1))
  q0)
 (q1 (qR (dL 2 rfl (cS 2 [0,4] ["mine","theirs","field","often"]) (iZ rfl T.Kw<|da (Đ 1) (da (Đ 2) HS))
  (λ_ _ _ _ _=>cr K rfl<|af (pC 0) (af (pC 1) aD))
  (λ_ _ _ _ _=>Lp)
  (λ_ _ _ _ _=>Nq (Đ 2) J3 hr.m<|da (Đ 0) (da (Nq (Đ 2) Iu hr.m<|da (Đ 3) (da (Đ 1) HS)) HS)))))))
 rintro _ _ @⟨p,r,ld,q,hp,OB,hl,hq,hf⟩;refine⟨rfl,.inl (.nx ⟨rfl,rfl,.l .lst<|dm hq⟩ ?_)⟩;unfold Mx.without;have rd:=eq_int (ε:=[some<|fD C p,some<|rw r,some<|rw ld,some<|.int q,some<|.int (r.getD q 0)]) (ra:=rV 4) (rb:=rC<|.int 0) rfl rfl;by_cases c:r.getD q 0=0
 ·rw[DM c]at rd;rw[if_pos c];exact .rt (.t rd ⟨rfl,rfl⟩)
 ·rw[DQ c]at rd;rw[if_neg c];refine .nx (.f rd rfl) ⟨aR ⟨_,_,⟨rfl,rfl,rfl⟩,iH _ _⟩ (by rw[Fd];omega) λz hz=>⟨_,⟨rfl,rfl⟩,rfl,by decide,⟨rfl,⟨rfl,by decide,⟨rfl,rfl,rfl⟩,⟨hp,?_⟩⟩,rfl⟩,⟨hp⟩⟩,?_⟩
  ·have:0<=r.getD q 0/\r.getD q 0<p:=Mx.JB.at hp hf q;exact .inl ⟨by omega,by omega⟩
  ·rw[<- Fb];exact P9 _ _
inductive Ci (C:Addr):Ä
 |mk {p n:Int}:My.JK p=true->p<=1000000->0<n->n<p->Ci C [fD C p,.int n] (.int (My.bk p n))
noncomputable abbrev x0:Stmt:=aF (top 36) 5
theorem Qi:ae ["self","number","rest","made"] å (a8 x0):=IM
theorem D4 (F:Iy K "back" "Field.back" x0 f fd)(T:Txt K mg C)(HQ:Dm P w K mg base 1 C "fit" å (Pr (Nx C)))(Iu:Dm P w K mg base 2 C "times" à (Pr (pA C))):HP P w K mg base Ik 3 f fd å (Pr (Ci C)):=by
 have ND:=Qi.nd;have Kz:=T.fl;refine F.dv Qi ?_ λHU A outer s H E hr=>(qC (qS (pS 2 ND<|Nq (Đ 0) HQ hr.m (da (Đ 1) HS)) λ_ _ _ h=>h)
 (qC (qI (dT bf cF (Đ 2)<|dC aa)
  (q1 qN)
  q0)
 (qC (qS (pS 3 ND<|dC aa) λ_ _ _ h=>h)
 (qC (qW E1 (dT oh xt (Đ 2)<|dC aa)
  (qC (qS (pS 3 ND<|Nq (Đ 0) Iu hr.m (da (Đ 3)<|da (dO tj gr (dC aa)<|dO eQ NB (PH Kz<|Đ 0) (Đ 2)) HS)) λ_ _ _ h=>h)
 (q1<|qS (pS 2 ND<|dO bK NB (PH Kz<|Đ 0) (Đ 2)) (λ_ _ _ h=>h))))
 (q1<|qR (Đ 3))))))
 rintro _ _ @⟨p,n,hP,QT,h0,h1⟩;have OB:=((My.HY p).mp hP).1;have hp:0<p:=by omega
 have en:=F9 (by omega) h1;have r0:=eq_int (ε:=[some<|fD C p,some<|.int n,some<|.int n,none]) (ra:=rV 2) (rb:=rC<|.int 0) rfl rfl;rw[DQ<|by omega]at r0;refine⟨rfl,.inl<|.nx ⟨rfl,by decide,⟨rfl,rfl⟩,(by have:=Nx.mk (C:=C) (n:=n) hp;rwa [en]at this)⟩ (.nx (.f r0 rfl) (.nx ⟨rfl⟩ ?_))⟩;refine g6 (b:=(n,1)) (λb ε=>ε=[.fz<|fD C p,.fz<|.int n,.fz<|.int b.1,.fz<|.int b.2]/\0<b.1/\b.1<p/\My.Inv p n b.1 b.2) (λb=>b.1.toNat) ⟨rfl,h0,h1,My.O1 OB (by rw[EH _<|by omega];exact en)⟩ λb ε gR=>?_;obtain⟨he,r0,r1,I⟩:=gR;subst he;have rd:=ne_int (ε:=[some<|fD C p,some<|.int n,some<|.int b.1,some<|.int b.2]) (ra:=rV 2) (rb:=rC<|.int 1) rfl rfl;by_cases c:b.1=1
 ·rw[DQ λz=>z c]at rd;rw[c]at I;exact .inl ⟨rd,rfl,by rw[My.RV I.lo I.hi<|My.Qq I]⟩
 ·rw[DM c]at rd;have l:=My.RU hP r0 c r1;have m0:=I.lo;have m1:=I.hi;exact .inr ⟨rd,(p % b.1,b.2 * (0 - p / b.1) % p),_,.nx ⟨rfl,by decide,⟨rfl,⟨rfl,⟨⟨rfl,rfl,rfl⟩,rfl,⟨r0,by omega⟩⟩,⟨trivial⟩⟩,rfl⟩,⟨hp,.inl ⟨by omega,by omega⟩⟩⟩ ⟨⟨rfl,rfl,rfl⟩,rfl,⟨r0⟩⟩,⟨rfl,l.1,by omega,My.RT I OB r0⟩,by omega⟩
inductive gE:Ä
 |mk {r:Ξ}{m:Nat}:m<=r.length->r.length<=1000->gE [rw r,.int m] (Bg (Mx.Io r m))
noncomputable abbrev fj:Stmt:=top 49
theorem Lh:ae ["row","many","place"] ē (a8 fj):=IM
theorem oy (F:Iy K "first_place" "first_place" fj f fd)(T:Txt K mg C):HP P w K mg base Ik 1 f fd ē (Pr gE):=by
 have ND:=Lh.nd;refine F.dv Lh ?_ λHU A _ s H E hr=>(qC (qL E1 rfl (QN rfl T.Ir<|da (Đ 1) HS) (pN 2 ND) (aN 2)
  (q1 (qI (dT oh xt (dS (ao hr) (Đ 0)<|Đ 2)<|dC aa)
  (q1<|qR (Đ 2))
  q0)))
 (q1<|qR (dC b6)))
 rintro _ _ @⟨r,m,hm,hl⟩;refine⟨rfl,.inl ?_⟩;refine h8 _ (λε=>∃ o,ε=[.fz _,.fz _,o]) (λa=>decide (Mx.e r a≠0)) (λa=>.int<|a) ⟨_,rfl⟩ ⟨m,by omega,⟨rfl,rfl⟩,(bt _).symm⟩ (λa ε ha gR=>?_) (λa h=>by unfold Mx.Io;rw[h];rfl) λh ε _=>⟨rfl,by unfold Mx.Io;rw[h];rfl⟩
 obtain⟨o,he⟩:=gR;subst he;have ha:=Eg.mp ha;refine⟨_,rfl,?_⟩;have rd:=ne_int (ε:=([Sl.fz<|rw r,.fz<|.int m,o].set 2<|.fz (.int a)).map Sl.a) (ra:=rO Sub (rV 0)<|rV 2) (rb:=rC<|.int 0) ⟨rfl,rfl,.l .lst<|dm (by omega)⟩ rfl
 cases c:decide (Mx.e r a≠0) with
 | false=>rw[c]at rd;exact⟨_,.f rd rfl,_,rfl⟩
 | true=>rw[c]at rd;exact .t rd ⟨rfl,rfl⟩
noncomputable abbrev zK (l:À):D:=.lst (l.map λ(a:Nat)=>.int (a:Int))
inductive cD:Ä
 |mk {t:Θ}{m:Nat}:t.length<=1000->(∀ r∈t,m<=r.length/\r.length<=1000)->cD [tb t,.int m] (zK (Mx.II t m))
noncomputable abbrev fg:Stmt:=top 50
theorem Lf:ae ["rows","many","places"] ["rows","many"] (a8 fg):=IM
theorem ou (F:Iy K "lead_places" "lead_places" fg f fd)(Kr:Df P w K mg base 1 "first_place" ē (Pr gE)):HP P w K mg base Ik 2 f fd ["rows","many"] (Pr cD):=by
 have ND:=Lf.nd;refine F.dv Lf ?_ λHU A _ s H E hr=>(qC (SM (n:=0) (aP (i:=2) ND rfl rfl rfl (cS 1 [1] ē) (ax<|Đ 0)
  (λ_ _ _ _ _=>pC 0)
  (λ_ _ _ _ _=>Lp)
  (λ_ _ _ _ _=>dF Kr hr.m rfl<|da (Đ 0) (da (Đ 1) HS))) rfl)
 (q1 (qR (Od 0 rfl (cS 1 [] ["place"]) (ax<|Đ 2)
  (λ_ _ _ _ _=>pC 0)
  (λ_ _ _ _ _=>c6<|dT gp qJ (Đ 0) (dC b6))
  (λ_ _ _ _ _=>Đ 0)))))
 rintro _ _ @⟨t,m,hl,hw⟩;refine⟨rfl,.inl<|.nx ⟨aR ⟨rfl,.l .lst⟩ hl λr hr=>⟨_,rfl,⟨rfl,rfl,rfl⟩,⟨(hw r hr).1,(hw r hr).2⟩⟩⟩ ⟨bh (h:=Bg) Option.isSome ⟨rfl,by rw[DL];exact .l .lst⟩ (by simpa using hl) λo _=>⟨_,rfl,⟨rfl,rfl,by cases o <;> exact⟨⟩⟩,λ_=>rfl⟩,?_⟩⟩;unfold Mx.II;congr 2;clear hl hw
 induction t with
 | nil=>rfl
 | cons r t ih=>
  rw[DX]
  cases c:Mx.Io r m with
  | none=>exact ih
  | some a=>
   injection ih with ih;rw[List.filter_cons_of_pos rfl,DX,<- ih];rfl
structure Tr (p:Int) (w:Nat) (t:Θ):Prop where
 sh:Mx.Sh p w t
 IX:t.length<=100
 Vi:w<=200
inductive pG (C:Addr):Ä
 |mk {p:Int}{t:Θ}{st a q wd:Nat}:My.JK p=true->p<=1000000->Tr p wd t->q<wd->st<=a->a<t.length->Mx.e (t.getD a []) q≠0->pG C [fD C p,tb t,.int st,.int a,.int q] (tb (Mx.cleared p (My.bk p) t st a q))
noncomputable abbrev kW:Stmt:=top 47
theorem NR:ae ["field","rows","start","at","place","lead","others"] ú (a8 kW):=IM
theorem xk (F:Iy K "cleared" "cleared" kW f fd)(T:Txt K mg C)(O7:Df P w K mg base 3 "scaled" ý (Pr (uj C)))(N7:Df P w K mg base 3 "without" ā (Pr (pp C)))(KS:Dm P w K mg base 3 C "back" å (Pr (Ci C))):HP P w K mg base Ik 4 f fd ú (Pr (pG C)):=by
 have ND:=NR.nd;refine F.dv NR ?_ λHU A outer s H E hr=>(qC (qS (pS 5 ND<|dF O7 hr.m rfl (da (Đ 0)<|da (dS (ao hr) (Đ 1)<|Đ 3) (da (Nq (Đ 0) KS hr.m<|da (dS (ao hr) (dS (ao hr) (Đ 1)<|Đ 3)<|Đ 4) HS) HS))) λ_ _ _ h=>h)
 (qC (SM (n:=0) (aP (i:=6) ND rfl rfl rfl (cS 1 [0,4,5] ["row","field","place","lead"]) (ax<|Qw (Uv (Đ 1) Uu<|Ut (Đ 3)) (Uv (Đ 1) (Ut<|Qw (Đ 3) (dC aa)) Uu))
  (λ_ _ _ _ _=>pC 0)
  (λ_ _ _ _ _=>Lp)
  (λ_ _ _ _ _=>dF N7 hr.m rfl<|da (Đ 1) (da (Đ 0)<|da (Đ 3) (da (Đ 2) HS)))) rfl)
 (q1<|qR (Qw (Qw (Uv (Đ 6) Uu<|Ut (Đ 2)) (d7<|da (Đ 5) HS).p)<|Uv (Đ 6) (Ut<|Đ 2) Uu))))
 rintro _ _ @⟨p,t,st,a,q,wd,hP,QT,S,hq,hs,ha,Qt⟩;have OB:=((My.HY p).mp hP).1;have IX:=S.IX;have Vi:=S.Vi;have ma:=eU (z:=[]) ha;have wa:=S.sh.LW _ ma;have fa:=Mx.JB.at (by omega) (S.sh.fit _ ma) q;have f0:0<Mx.e (t.getD a []) q:=by omega
 have hb:=My.Zh hP f0 fa.2;have mt:∀ {r},r∈t.take a++t.drop (a+1)->r∈t:=λh=>(Ea.mp h).elim GD Hi;have ra:rO Sub (rV 1) (rV 3) [some<|fD C p,some<|tb t,some<|.int st,some<|.int a,some<|.int q,none,none] (rw (t.getD a [])):=⟨rfl,rfl,.l .lst<|y6 ha⟩
 have cd:wo (t.map rw) none (some (a:Int))++wo (t.map rw) (some<|(a:Int)+1) none=(t.take a++t.drop (a+1)).map rw:=by rw[cR,show ((a:Int)+1)=((a+1:Nat):Int) from rfl,iN,DP,FR,He]
 refine⟨rfl,.inl<|.nx ⟨⟨rfl,ra,⟨rfl,by decide,⟨⟨ra,rfl,.l .lst<|dm (by omega)⟩,rfl⟩,⟨hP,QT,f0,fa.2⟩⟩,rfl⟩,⟨by omega,hb.1,Int.le_trans (Int.le_of_lt hb.2) QT,by omega⟩⟩ (.nx ⟨aR ⟨⟨⟨rfl,.lst,rfl,⟨rfl⟩,rfl⟩,⟨rfl,.lst,⟨⟨rfl,rfl,.i⟩⟩,rfl,rfl⟩,.l ?_⟩,by rw[cd];exact .l .lst⟩ ?_ λr hr=>⟨_,rfl,⟨rfl,rfl,rfl,rfl,rfl⟩,⟨by omega,QT,?_,?_,?_⟩⟩⟩ ⟨⟨⟨⟨rfl,.lst,rfl,⟨rfl⟩,rfl⟩,⟨⟨rfl,rfl⟩,by simp,rfl⟩,.l ?_⟩,⟨rfl,.lst,⟨rfl⟩,rfl,rfl⟩,.l ?_⟩,?_⟩)⟩
 ·rw[<- DT,cd];simp;omega
 ·simp;omega
 ·rw[S.sh.LW r<|mt hr];omega
 ·rw[S.sh.LW r<|mt hr];exact hq
 ·exact S.sh.fit r (mt hr)
 ·rw[cR];simp;omega
 ·rw[cR,iN];simp;omega
 ·rw[cR,iN];unfold Mx.cleared;show Fl.rt (.lst<|List.map rw (_++[_]++_))=_;rw[DP,DP,FR,He,DL];rfl
end
section
variable {C:Addr}
noncomputable abbrev red (p:Int)(t:Θ)(m:Nat):Θ:=(Mx.run p (My.bk p) t m).1
inductive kE (C:Addr):Ä
 |mk {p:Int}{m wd:Nat}{t:Θ}:My.JK p=true->p<=1000000->Tr p wd t->m<=wd->kE C [fD C p,tb t,.int m] (tb (red p t m))
theorem sU (hP:My.JK p=true)(S:Tr p wd t)(i:Nat):∃ ps,(Mx.run p (My.bk p) t i).2=ps.length/\Mx.RR p wd i (red p t i) ps/\(red p t i).length=t.length/\Tr p wd (red p t i):=by have OB:=((My.HY p).mp hP).1;obtain⟨ps,h1,h2,h3,_⟩:=Mx.RR.run (by omega) (My.O2 hP) S.sh i;exact⟨ps,h1,h2,h3,h2.sh,by rw[h3];exact S.IX,S.Vi⟩
noncomputable abbrev kT:Stmt:=top 48
theorem NO:ae ["field","table","many","rows","start","place","at"] á (a8 kT):=IM
theorem xh (F:Iy K "reduced" "reduced" kT f fd)(T:Txt K mg C)(KQ:Df P w K mg base 2 "fitted_row" ["field","row"] (Pr (Kk C)))(Mh:Df P w K mg base 1 "row_with" ["rows","start","place"] (Pr LM))(Ng:Df P w K mg base 4 "cleared" ú (Pr (pG C))):HP P w K mg base Ik 5 f fd á (Pr (kE C)):=by
 have ND:=NO.nd;refine F.dv NO ?_ λHU A outer s H E hr=>(qC (SM (n:=0) (aP (i:=3) ND rfl rfl rfl (cS 1 [0] ["row","field"]) (ax<|Đ 1)
  (λ_ _ _ _ _=>pC 0)
  (λ_ _ _ _ _=>Lp)
  (λ_ _ _ _ _=>dF KQ hr.m rfl<|da (Đ 1) (da (Đ 0) HS))) rfl)
 (qC (qS (pS 4 ND<|dC aa) λ_ _ _ h=>h)
 (qC (qL E1 rfl (QN rfl T.Ir<|da (Đ 2) HS) (pN 5 ND) (aN 5)
  (qC (qS (pS 6 ND<|dF Mh hr.m rfl (da (Đ 3)<|da (Đ 4) (da (Đ 5) HS))) λ_ _ _ h=>h)
 (q1 (qI (dT gp qJ (Đ 6)<|dC b6)
  (qC (qS (pS 3 ND<|dF Ng hr.m rfl (da (Đ 0)<|da (Đ 3) (da (Đ 4)<|da (Đ 6) (da (Đ 5) HS)))) λ_ _ _ h=>h)
 (q1<|UX (x8 (i:=4) ND rfl (by first|exact Or.inl rfl|exact Or.inr rfl) (dC aa) xI)))
  q0))))
 (q1<|qR (Đ 3)))))
 rintro _ _ @⟨p,m,wd,t,hP,QT,S,hm⟩;have OB:=((My.HY p).mp hP).1;have IX:=S.IX;have Vi:=S.Vi;refine⟨rfl,.inl<|.nx ⟨aR (h:=rw) ⟨rfl,.l .lst⟩ (by omega) λr hr=>⟨_,rfl,⟨rfl,rfl,rfl⟩,?_⟩⟩ (.nx ⟨rfl⟩ ?_)⟩
 ·have:=Kk.mk (C:=C) (p:=p) (by omega) (by rw[S.sh.LW r hr];omega);rwa [Mx.Po<|S.sh.fit r hr]at this
 refine eZ (List.range m) (λi ε=>∃ o5 o6,ε=[.fz<|fD C p,.fz<|tb t,.fz<|.int m,.fz<|tb (red p t i),.fz<|.int ((Mx.run p (My.bk p) t i).2:Nat),o5,o6]) ⟨_,_,rfl⟩ ⟨m,by omega,⟨rfl,rfl⟩,(bt _).symm⟩ (λi x ε hx gR=>?_) λε gR=>?_
 ·obtain⟨o5,o6,he⟩:=gR;obtain⟨rfl,hi⟩:=jU hx;subst he;obtain⟨ps,h1,h2,h3,Sr⟩:=sU hP S i;have QQ:(Mx.run p (My.bk p) t i).2<=(red p t i).length:=by rw[h1];exact h2.len
  have Pw:=Mx.Mz p (My.bk p) t i;unfold Mx.step at Pw;have hf:=Sr.IX;refine⟨_,rfl,?_⟩;have c1:=LM.mk (q:=i) (by omega) QQ (by omega) λr hr=>by rw[Sr.sh.LW r hr];omega
  cases hrw:Mx.J4 (red p t i) (Mx.run p (My.bk p) t i).2 i with
  | none=>
   rw[hrw]at c1 Pw;exact⟨_,.nx ⟨⟨rfl,rfl,rfl,rfl⟩,c1⟩<|.f ⟨rfl,rfl,by exact⟨⟩⟩ rfl,_,_,by unfold red;rw[Pw];rfl⟩
  | some a=>
   obtain⟨g1,g2,g3⟩:=Mx.MA hrw;rw[hrw]at c1 Pw;exact⟨_,.nx ⟨⟨rfl,rfl,rfl,rfl⟩,c1⟩<|.t ⟨rfl,rfl,by exact⟨⟩⟩ (.nx ⟨⟨rfl,rfl,rfl,rfl,rfl,rfl⟩,⟨hP,QT,Sr,by omega,g1,g2,g3⟩⟩ ⟨rfl,rfl⟩),_,_,by unfold red;rw[Pw];rfl⟩
 ·obtain⟨o5,o6,he⟩:=gR;subst he;rw[Er];exact⟨rfl,rfl⟩
noncomputable abbrev J5 (p:Int)(t:Θ)(m:Nat):À:=Mx.II (red p t m) m
noncomputable def uU (p:Int)(t:Θ)(m:Nat):D:=if (J5 p (Mx.joined t) m).length<m then .non else tb (((red p (Mx.joined t) m).take m).map (List.drop m))
inductive NI (C:Addr):Ä
 |mk {p:Int}{m:Nat}{t:Θ}:My.JK p=true->p<=1000000->Tr p m t->m<=100->NI C [fD C p,tb t,.int m] (uU p t m)
theorem AQ (r o:Ξ):rw (r++o)=.lst (r.map .int++o.map .int):=congrArg D.lst DP
noncomputable abbrev nH:Stmt:=top 51
theorem Ou:ae ["field","table","many","joined","rows"] á (a8 nH):=IM
theorem zF (F:Iy K "reader" "reader" nH f fd)(T:Txt K mg C)(JF:Df P w K mg base 2 "ones" č (Pr sd))(J2:Df P w K mg base 2 "lead_places" ["rows","many"] (Pr cD))(JL:Df P w K mg base 5 "reduced" á (Pr (kE C))):HP P w K mg base Ik 6 f fd á (Pr (NI C)):=by
 have ND:=Ou.nd;refine F.dv Ou ?_ λHU A outer s H E hr=>(qC (qS (aP (i:=3) ND rfl rfl rfl (cS 2 [] ["row","own"]) (iZ rfl T.Kw<|da (Đ 1) (da (dF JF hr.m rfl<|da (dB b5 aG rfl T.IH boot_len<|da (Đ 1) HS) HS) HS))
  (λ_ _ _ _ _=>cr K rfl<|af (pC 0) (af (pC 1) aD))
  (λ_ _ _ _ _=>Lp)
  (λ_ _ _ _ _=>Qw (Đ 0)<|Đ 1)) λ_ _ _=>nU (n:=2))
 (qC (qS (pS 4 ND<|dF JL hr.m rfl (da (Đ 0)<|da (Đ 3) (da (Đ 2) HS))) λ_ _ _ h=>h)
 (qC (qI (dT lQ gr (dB b5 aG rfl T.IH boot_len<|da (dF J2 hr.m rfl<|da (Đ 4) (da (Đ 2) HS)) HS)<|Đ 2)
  (q1<|qR (dC b6))
  q0)
 (q1 (qR (Od 0 rfl (cS 1 [2] ē) (ax<|Uv (Đ 4) Uu (Ut<|Đ 2))
  (λ_ _ _ _ _=>pC 0)
  (λ_ _ _ _ _=>Lp)
  (λ_ _ _ _ _=>Uv (Đ 0) (Ut<|Đ 1) Uu)))))))
 rintro _ _ @⟨p,m,t,hP,QT,S,hm⟩;have OB:2<=p:=((My.HY p).mp hP).1;have IX:=S.IX;have Sj:Tr p (m+t.length) (Mx.joined t):=⟨Mx.LJ (by omega) S.sh,by rw[Mx.Je];exact IX,by omega⟩
 obtain⟨ps,h1,h2,h3,Sr⟩:=sU hP Sj m;have hf:=Sr.IX;refine⟨rfl,.inl<|.nx ⟨dj (xs:=t.zip<|Mx.ones t.length) (u:=λz=>.tup [rw z.1,rw z.2]) (h:=λz=>rw (z.1++z.2)) ⟨_,_,⟨rfl,⟨⟨⟨⟨rfl,rfl⟩,M0.m⟩,rfl⟩,⟨by omega⟩⟩,rfl⟩,by rw[jI,DL];rfl⟩ (by rw[Fd];omega) (λz hz=>⟨_,⟨rfl,rfl⟩,rfl,rfl,?_⟩) ?_⟩ (.nx ⟨⟨rfl,rfl,rfl,rfl⟩,⟨hP,QT,Sj,by omega⟩⟩ ?_)⟩
 ·have h1:=S.sh.LW _ (FO hz).1;obtain⟨j,_,h2⟩:=DI.mp (FO hz).2;have h2:z.2.length=t.length:=by rw[<- h2];simp[Mx.HL]
  rw[AQ];exact .l (by rw[DH,DH];omega)
 ·unfold Mx.joined;rw[<- Fb,show tb _=.lst (List.map rw _) from rfl,DL];rfl
 have rd:=lt_int (ε:=[some<|fD C p,some<|tb t,some<|.int m,some<|tb (Mx.joined t),some<|tb (red p (Mx.joined t) m)]) (ra:=rF M0<|rA (rF cD<|rA (rV 4) (rA (rV 2) Of)) Of) (rb:=rV 2) ⟨⟨⟨⟨rfl,rfl,rfl⟩,⟨by omega,λr hr=>by rw[Sr.sh.LW r hr];omega⟩⟩,rfl⟩,M0.m⟩ rfl;unfold uU;by_cases c:(J5 p (Mx.joined t) m).length<m
 ·rw[if_pos c];rw[DM<|Int.ofNat_lt.mpr c]at rd;exact .rt (.t rd ⟨rfl,rfl⟩)
 ·rw[if_neg c];rw[DQ λz=>c<|Int.ofNat_lt.mp z]at rd;refine .nx (.f rd rfl) ⟨aR ⟨⟨rfl,.lst,rfl,⟨rfl⟩,rfl⟩,by rw[cR,FR];exact .l .lst⟩ (by rw[E4];omega) λr _=>⟨_,rfl,rfl,.lst,⟨rfl⟩,rfl,by rw[iN,<- He]⟩,tbm _ _⟩
noncomputable def fQ (p:Int)(t:Θ)(m:Nat):À:=(List.range m).filter λq=>!decide (q∈J5 p t m)
noncomputable def mR (p:Int)(t:Θ)(m:Nat):D:=match fQ p t m with
 | []=>.non
 | u::_=>rw (Mx.Iw p (red p t m) (J5 p t m) m u)
theorem lL (p:Int)(u:Nat):∀ (l:Î)(v:Ξ),Mx.JC p u l v=l.foldl (λb z=>b.set z.2 ((0 - Mx.e z.1 u) % p)) v
 | [],_=>rfl
 | _::l,_=>lL p u l _
theorem D9 (l:À):zK l=rw (l.map λ(a:Nat)=>(a:Int)):=by rw[show rw _=.lst (List.map D.int _) from rfl,DL];rfl
inductive uo (C:Addr):Ä
 |mk {p:Int}{m:Nat}{t:Θ}:My.JK p=true->p<=1000000->Tr p m t->uo C [fD C p,tb t,.int m] (mR p t m)
noncomputable abbrev nI:Stmt:=top 52
theorem Ov:ae ["field","table","many","rows","places","unled","told","row","place"] á (a8 nI):=IM
theorem zG (F:Iy K "nought" "nought" nI f fd)(T:Txt K mg C)(J2:Df P w K mg base 2 "lead_places" ["rows","many"] (Pr cD))(JL:Df P w K mg base 5 "reduced" á (Pr (kE C)))(J':Df P w K mg base 1 "ones_row" ď (Tu iO))(J3:Dm P w K mg base 2 C "minus" à (Pr (uq C))):HP P w K mg base Ik 6 f fd á (Pr (uo C)):=by
 have ND:=Ov.nd;refine F.dv Ov ?_ λHU A outer s H E hr=>(qC (qS (pS 3 ND<|dF JL hr.m rfl (da (Đ 0)<|da (Đ 1) (da (Đ 2) HS))) λ_ _ _ h=>h)
 (qC (qS (pS 4 ND<|dF J2 hr.m rfl (da (Đ 3)<|da (Đ 2) HS)) λ_ _ _ h=>h)
 (qC (qS (aP (i:=5) ND rfl rfl rfl (cS 1 [4] ["place","places"]) (QN rfl T.Ir<|da (Đ 2) HS)
  (λ_ _ _ _ _=>pC 0)
  (λ_ _ _ _ _=>c6<|Ra (ao hr) (Đ 0) (Đ 1))
  (λ_ _ _ _ _=>Đ 0)) λ_ _ _=>nU (K:=K) (n:=0))
 (qC (qI (dT bf cF (dB b5 aG rfl T.IH boot_len<|da (Đ 5) HS)<|dC aa)
  (q1<|qR (dC b6))
  q0)
 (qC (qO (pS 6 ND<|dFN J' hr.m rfl (da (Đ 2)<|da (dS (ao hr) (Đ 5)<|dC aa) HS)) λ_ _ _ h=>h)
 (qC (qL E1 rfl (iZ rfl T.Kw<|da (Đ 3) (da (Đ 4) HS)) (cr K rfl<|af (pN 7 ND) (af (pN 8 ND) aD)) (fY K [7,8])
  (q1<|qSI (sY (Nq (Đ 0) J3 hr.m<|da (dC aa) (da (dS (ao hr) (Đ 7)<|dS (ao hr) (Đ 5) (dC aa)) HS))<|V4 (pv 6) (Đ 8) AI) (λ_ _ _ h=>h)))
 (q1<|qR (Đ 6))))))))
 rintro _ _ @⟨p,m,t,hP,QT,S⟩;have OB:2<=p:=((My.HY p).mp hP).1;have Vi:=S.Vi;obtain⟨ps,h1,h2,h3,Sr⟩:=sU hP S m;have hf:=Sr.IX;have eps:J5 p t m=ps:=Mx.J0 h2;refine⟨rfl,.inl<|.nx ⟨⟨rfl,rfl,rfl,rfl⟩,⟨hP,QT,S,DV _⟩⟩ (.nx ⟨⟨rfl,rfl,rfl⟩,⟨by omega,λr hr=>by rw[Sr.sh.LW r hr];omega⟩⟩ (.nx ⟨bh (λq=>!decide (q∈J5 p t m)) ⟨m,by omega,⟨rfl,rfl⟩,(bt _).symm⟩ (by rw[Er];omega) λq _=>⟨_,rfl,⟨rfl,rfl,?_⟩,λ_=>rfl⟩⟩ ?_))⟩
 ·have:=kg (n:=true) (i:=q) (ks:=(J5 p t m).map λ(a:Nat)=>(a:Int));rw[<- D9,if_pos rfl]at this;rwa [FD.mpr ⟨λh=>let ⟨a,h1,h2⟩:=DI.mp h;Int.ofNat.inj h2▸h1,DS⟩]at this
 rw[show (List.range m).filter (λq=>!decide (q∈J5 p t m))=fQ p t m from rfl];have rd:=eq_int (ε:=[some<|fD C p,some<|tb t,some<|.int m,some<|tb (red p t m),some<|zK (J5 p t m),some<|zK (fQ p t m),none,none,none]) (ra:=rF M0<|rA (rV 5) Of) (rb:=rC<|.int 0) ⟨⟨rfl,rfl⟩,M0.m⟩ rfl;unfold mR
 cases hu:fQ p t m with
 | nil=>rw[hu]at rd;exact .rt (.t rd ⟨rfl,rfl⟩)
 | cons u us=>
  rw[hu]at rd;rw[DQ (by simp;omega)]at rd;have um:u<m:=Eg.mp (DY.mp (by rw[show (List.range m).filter _=fQ p t m from rfl,hu];exact E7:u∈(List.range m).filter λq=>!decide (q∈J5 p t m))).1;refine .nx (.f rd rfl) (.nx ⟨⟨rfl,⟨rfl,rfl,.l .lst<|uh (i:=0) (x:=u) rfl⟩,rfl⟩,⟨by omega⟩⟩ ?_);refine yn ((red p t m).zip<|J5 p t m) (u:=λz=>.tup [rw z.1,.int (z.2:Int)]) (λb ε=>b.length=m/\∃ o7 o8,ε=[.fz<|fD C p,.fz<|tb t,.fz<|.int m,.fz<|tb (red p t m),.fz<|zK (J5 p t m),.fz<|zK (u::us),.ow<|rw b,o7,o8]) (λb z=>b.set z.2<|(0 - Mx.e z.1 u) % p) (b:=Mx.HL m u) ⟨Mx.Ic _ _,_,_,rfl⟩ ⟨_,_,⟨rfl,rfl,rfl⟩,by rw[jI,DL];rfl⟩ (λb z ε hz gR=>?_) λε gR=>?_
  ·obtain⟨hb,o7,o8,he⟩:=gR;subst he;have hq:z.2<m:=h2.lt _<|eps▸(FO hz).2;have hw:=Sr.sh.LW _ (FO hz).1;refine⟨_,⟨_,rfl,rfl,rfl⟩,_,⟨rfl,.z ⟨rfl,by decide,⟨rfl,⟨rfl,⟨rfl,rfl,.l .lst<|uh (i:=0) (x:=u) rfl⟩,.l .lst<|dm (by omega)⟩,rfl⟩,⟨by omega⟩⟩,rfl,De<|by simpa [hb] using hq⟩,by simpa using hb,.fz<|rw z.1,.fz<|.int (z.2:Int),?_⟩;rw[show rw (b.set _ _)=.lst (List.map D.int<|b.set _ _) from rfl,List.map_set];rfl
  ·obtain⟨hb,o7,o8,he⟩:=gR;subst he;exact⟨rfl,by show Fl.rt (rw (Mx.JC p u _ _))=_;rw[lL]⟩
noncomputable def gy (p:Int)(t:Θ)(m:Nat):D:=match uU p t m with
 | .non=>.tup [.str "alike",rw (List.replicate m 0),mR p t m]
 | d=>.tup [.str "reads",d]
inductive jF (C:Addr):Ä
 |mk {p:Int}{m:Nat}{t:Θ}:My.JK p=true->p<=1000000->Tr p m t->m<=100->jF C [fD C p,tb t,.int m] (gy p t m)
noncomputable abbrev i5:Stmt:=top 65
theorem Mu:ae ["field","table","many","read"] á (a8 i5):=IM
theorem tH (F:Iy K "judgement" "judgement" i5 f fd)(O8:Df P w K mg base 6 "reader" á (Pr (NI C)))(O9:Df P w K mg base 6 "nought" á (Pr (uo C))):HP P w K mg base Ik 7 f fd á (Pr (jF C)):=by
 have ND:=Mu.nd;refine F.dv Mu ?_ λHU A outer s H E hr=>(qC (qS (pS 3 ND<|dF O8 hr.m rfl (da (Đ 0)<|da (Đ 1) (da (Đ 2) HS))) λ_ _ _ h=>h)
 (qC (qI (dT gp qJ (Đ 3)<|dC b6)
  (q1<|qR (mM<|da (dC bX) (da (Đ 3) HS)))
  q0)
 (q1<|qR (mM<|da (dC bX) (da (dO l8 qH (d7<|da (dC aa) HS).p<|Đ 2)<|da (dF O9 hr.m rfl<|da (Đ 0) (da (Đ 1)<|da (Đ 2) HS)) HS)))))
 rintro _ _ @⟨p,m,t,hP,QT,S,hm⟩;have c1:=NI.mk (C:=C) hP QT S hm;unfold gy;unfold uU at c1 ⊢;by_cases c:(J5 p (Mx.joined t) m).length<m
 ·rw[if_pos c]at c1 ⊢;exact⟨rfl,.inl<|.nx ⟨⟨rfl,rfl,rfl,rfl⟩,c1⟩ (.nx (.f ⟨rfl,rfl,by exact⟨⟩⟩ rfl) ⟨⟨⟨rfl,⟨⟨⟨rfl,rfl⟩,by simp,rfl⟩,rfl,⟨by omega⟩⟩,⟨⟨rfl,rfl,rfl,rfl⟩,⟨hP,QT,S⟩⟩,rfl⟩,by simp,rfl⟩,by rw[show rw (List.replicate m 0)=.lst (List.map D.int<|List.replicate m 0) from rfl,List.map_replicate];rfl⟩)⟩
 ·rw[if_neg c]at c1 ⊢;exact⟨rfl,.inl<|.nx ⟨⟨rfl,rfl,rfl,rfl⟩,c1⟩ (.rt<|.t ⟨rfl,rfl,by exact⟨⟩⟩ ⟨⟨⟨rfl,rfl,rfl⟩,by simp,rfl⟩,rfl⟩)⟩
end
noncomputable abbrev gI (c:Cl)(p:Str×Kd):D:=.ins (c.of p.2) ["name"] [.str p.1]
noncomputable abbrev bO (t:IJ):D:=.tup [.int t.1,.str t.2.1,.str t.2.2.1,.int t.2.2.2]
noncomputable abbrev B3 (c:Cl)(S:NS):D:=Jq (S.Ia.map λp=>(.inr p.1,gI c p))
noncomputable abbrev Y0 (S:NS):D:=Jq (S.HM.map λt=>(.inl t.1,bO t))
noncomputable abbrev aI (c:Cl)(S:NS):D:=.ins c.IU ["kept_posts","kept_ties","next_number"] [B3 c S,Y0 S,.int S.next]
noncomputable abbrev bI (l:η):D:=.lst (l.map .str)
noncomputable abbrev bL (ts:List IJ):D:=.lst (ts.map bO)
noncomputable def NS.names (S:NS):η:=S.Ia.map (·.1)
noncomputable def NS.J8 (S:NS):η:=(S.Ia.filter λp=>Xn p.2).map (·.1)
noncomputable def NS.Ji (S:NS):Option (Str×Kd):=S.Ia.find? λp=>!Sf p.2
noncomputable def rg:Option (Str×Kd)->D
 | none=>.non
 | some p=>.str p.1
theorem kh {S:NS}:(cI (S.Ia.map λp=>(.inr p.1,gI c p)) (.inr x)).isSome=decide (x∈S.names):=VS
section
variable {c:Cl}
theorem Cl.Ok.W2 (O:Cl.Ok K c):∀ C,C=c.IU->LF K C/\IE K C "kept_posts":=λ_ h=>h▸⟨O.cn,O.fp⟩
theorem Cl.Ok.ft' (O:Cl.Ok K c):∀ C,C=c.IU->LF K C/\IE K C "kept_ties":=λ_ h=>h▸⟨O.cn,O.ft⟩
theorem Cl.Ok.nm' (O:Cl.Ok K c):∀ C,jH c C->LF K C/\IE K C "name":=λ_ gR=>by obtain⟨k,h⟩:=gR;exact h▸⟨O.cls k,O.SS k⟩
inductive iS (b:Bool):Ä
 |mk {d:D}:iS b [d] (.bl b)
theorem dw (F:HP P w K mg base Ik 1 f fd Þ (gY (.bl b))):HP P w K mg base Ik 1 f fd Þ (Pr (iS b)):=F.imp λvs H Q E ⟨_,_,_,s,h,⟨⟩,q⟩=>let ⟨v,ws,e,_,e2⟩:=h;⟨v,by rw[e,e2],q _ H (f'.refl _) rfl⟩
inductive bH (c:Cl):Ä
 |mk {S:NS}{x:Str}:x.length<=1000->jr x=true->x∉S.names->bH c [aI c S,.str x] .non
inductive MS:Ä
 |mk {x:Str}:x.length<=1000->MS [.str x] (.bl (jr x))
noncomputable abbrev bP:Stmt:=aF (top 32) 4
theorem gL:ae Ü Ü (a8 bP):=IM
theorem gM (F:Iy K "check_new_name" "Net.check_new_name" bP f fd)(O:Cl.Ok K c)(Nd:Df P w K mg base 1 "is_name" ["name"] (Pr MS)):HP P w K mg base Ik 2 f fd Ü (Pr (bH c)):=by
 have Ie:=O.W2;refine F.dv gL ?_ λHU A _ s H E hr=>(qC (qI (Af<|dV (cf<|dF Nd hr.m rfl (da (Đ 1) HS)))
  (q1 qN)
  q0)
 (q1 (qI (TC (ao hr) (Đ 1)<|PH Ie (Đ 0))
  (q1 qN)
  q0)))
 rintro _ _ @⟨S,x,hx,h1,h2⟩;have d1:=MS.mk hx;rw[h1]at d1;exact⟨rfl,.inr ⟨rfl,_,.nx (.f ⟨⟨rfl,rfl⟩,d1⟩ rfl)<|.f ⟨rfl,⟨rfl,rfl,rfl⟩,.k rfl rfl (by rw[kh,DQ h2];rfl)⟩ rfl⟩⟩
inductive y8 (c:Cl):Ä
 |mk {S:NS}:y8 c [aI c S] (bI S.names)
noncomputable abbrev i9:Stmt:=aF (top 32) 11
theorem sH:ae Þ Þ (a8 i9):=IM
theorem tO (F:Iy K "names" "Net.names" i9 f fd)(O:Cl.Ok K c)(T:jB mg):HP P w K mg base Ik 1 f fd Þ (Pr (y8 c)):=by
 have Ie:=O.W2;refine F.dv sH ?_ λHU A _ s H E hr=>(q1<|qR (Sv fW (cU rfl) rfl T.Ll boot_list<|da (PH Ie<|Đ 0) HS))
 rintro _ _ @⟨S⟩;exact⟨rfl,.inl ⟨⟨⟨⟨rfl,rfl,rfl⟩,rfl⟩,.k⟩,by rw[DL];show Fl.rt (.lst<|List.map _ (List.map _ _))=_;rw[DL];rfl⟩⟩
inductive bB (c:Cl):Ä
 |mk {S:NS}:S.Ia.length<=1000->bB c [aI c S] (bI S.J8)
noncomputable abbrev db:Stmt:=aF (top 32) 12
theorem kP:ae Þ Þ (a8 db):=IM
theorem jJ (l:List α)(f:α->Key)(g:α->D):l.map g=(l.map λx=>(f x,g x)).map (·.2):=by rw[DL];rfl
theorem lh (F:Iy K "listeners" "Net.listeners" db f fd)(O:Cl.Ok K c)(LO:∀ C,jH c C->Dm P w K mg base 1 C "reads" Þ (Pr (iS (decide (C=c.LS))))):HP P w K mg base Ik 2 f fd Þ (Pr (bB c)):=by
 have Ie:=O.W2;have OX:=O.nm';refine F.dv kP ?_ λHU A _ s H E hr=>(q1 (qR (dLv 0 rfl (cS 1 [] ["post"]) (jV<|PH Ie (Đ 0))
  (λ_ _ _ _ _=>pC 0)
  (λ_ _ _ _ _=>c6<|dV (cf<|Dq (Đ 0) LO hr.m))
  (λ_ _ _ _ _=>PH OX<|Đ 0))))
 rintro _ _ @⟨S,hl⟩;exact⟨rfl,.inl ⟨bh (λp=>Xn p.2) ⟨⟨rfl,rfl,rfl⟩,jJ _ _ _⟩ hl λp _=>⟨_,rfl,⟨rfl,⟨_,rfl⟩,by decide,by rw[<- ik O];exact⟨⟩⟩,λ_=>⟨rfl,⟨_,rfl⟩,rfl⟩⟩,by show Fl.rt (.lst<|List.map _ (List.map _ _))=_;rw[DL];rfl⟩⟩
inductive wG (c:Cl):Ä
 |mk {S:NS}:wG c [aI c S] (rg S.Ji)
noncomputable abbrev ji:Stmt:=aF (top 32) 13
theorem Nn:ae þ Þ (a8 ji):=IM
theorem vi (F:Iy K "home" "Net.home" ji f fd)(O:Cl.Ok K c)(LP:∀ C,jH c C->Dm P w K mg base 1 C "hears" Þ (Pr (iS (!decide (C=c.house))))):HP P w K mg base Ik 2 f fd Þ (Pr (wG c)):=by
 have ND:=Nn.nd;have Ie:=O.W2;have OX:=O.nm';refine F.dv Nn ?_ λHU A _ s H E hr=>(qC (qLv E1 rfl (jV<|PH Ie (Đ 0)) (pN 1 ND) (aN 1)
  (q1 (qI (Af<|dV (cf<|Dq (Đ 1) LP hr.m))
  (q1<|qR (PH OX<|Đ 1))
  q0)))
 (q1<|qR (dC b6)))
 rintro _ _ @⟨S⟩;refine⟨rfl,.inl ?_⟩;refine h8 _ (λε=>∃ o,ε=[.fz _,o]) (λp=>!Sf p.2) (λp=>.str p.1) ⟨_,rfl⟩ ⟨⟨rfl,rfl,rfl⟩,jJ _ _ _⟩ (λp ε _ gR=>?_) (λp h=>by unfold NS.Ji;rw[h];rfl) λh ε _=>⟨rfl,by unfold NS.Ji;rw[h];rfl⟩
 obtain⟨o,he⟩:=gR;subst he;have hb:iS (!decide (c.of p.2=c.house)) [gI c p] (.bl<|Sf p.2):=by rw[<- iA O];exact⟨⟩
 refine⟨_,rfl,?_⟩
 cases z:Sf p.2 with
 | true=>rw[z]at hb;exact⟨_,.f ⟨rfl,⟨_,rfl⟩,by decide,hb⟩ rfl,_,rfl⟩
 | false=>rw[z]at hb;exact .t ⟨rfl,⟨_,rfl⟩,by decide,hb⟩ ⟨⟨rfl,⟨_,rfl⟩,rfl⟩,rfl⟩
inductive kC (c:Cl):Ä
 |mk {S:NS}:S.HM.length<=1000->kC c [aI c S] (bL S.HM)
noncomputable abbrev jf:Stmt:=aF (top 32) 14
theorem uN:ae Þ Þ (a8 jf):=IM
theorem vd (F:Iy K "ties" "Net.ties" jf f fd)(O:Cl.Ok K c):HP P w K mg base Ik 1 f fd Þ (Pr (kC c)):=by
 have OY:=O.ft';refine F.dv uN ?_ λHU A _ s H E hr=>(q1 (qR (dLv 4 rfl (cS 4 [] ["number","one","other","delay"]) (jV<|PH OY (Đ 0))
  (λ_ _ _ _ _=>cr K rfl<|af (pC 0) (af (pC 1)<|af (pC 2) (af (pC 3) aD)))
  (λ_ _ _ _ _=>Lp)
  (λ_ _ _ _ _=>mM<|da (Đ 0) (da (Đ 1)<|da (Đ 2) (da (Đ 3) HS))))))
 rintro _ _ @⟨S,hl⟩;exact⟨rfl,.inl ⟨aR ⟨⟨rfl,rfl,rfl⟩,jJ _ _ _⟩ hl λt _=>⟨_,⟨rfl,rfl⟩,⟨rfl,rfl,rfl,rfl,rfl⟩,by simp,rfl⟩,rfl⟩⟩
inductive cE (c:Cl):Ä
 |mk {S:NS}{x:Str}:x∈S.names->cE c [aI c S,.str x] .non
noncomputable abbrev cy:Stmt:=aF (top 32) 8
theorem j8:ae Ü Ü (a8 cy):=IM
theorem jo (F:Iy K "check_there" "Net.check_there" cy f fd)(O:Cl.Ok K c):HP P w K mg base Ik 1 f fd Ü (Pr (cE c)):=by
 have Ie:=O.W2;refine F.dv j8 ?_ λHU A outer s H E hr=>(q1 (qI (Ra (ao hr) (Đ 1)<|PH Ie (Đ 0))
  (q1 qN)
  q0))
 rintro _ _ @⟨S,x,h⟩;exact⟨rfl,.inr ⟨rfl,_,.f ⟨rfl,⟨rfl,rfl,rfl⟩,.k rfl rfl (by rw[kh,DM h];rfl)⟩ rfl⟩⟩
noncomputable def NS.into (S:NS)(x:Str):Ξ:=(S.HM.filter λt=>decide (t.2.2.1=x)).map (·.1)
noncomputable def NS.JO (S:NS)(x:Str):Ξ:=(S.HM.filter λt=>decide (t.2.1=x)).map (·.1)
inductive pF (c:Cl) (g:NS->Str->Ξ):Ä
 |mk {S:NS}{x:Str}:S.HM.length<=1000->x∈S.names->pF c g [aI c S,.str x] (rw (g S x))
theorem eq_str (ha:ra ε (.str x))(hb:rb ε (.str y)):rO (fE false) ra rb ε (.bl (decide (x=y))):=.mk ha hb (.mk rfl rfl rfl<|congrArg _ (by exact FD.mpr ⟨congrArg _,V.str.inj⟩))
noncomputable abbrev jh:Stmt:=aF (top 32) 15
theorem uP:ae Ü Ü (a8 jh):=IM
theorem vg (F:Iy K "into" "Net.into" jh f fd)(I0:Dm P w K mg base 1 c.IU "check_there" Ü (Pr (cE c)))(HV:Dm P w K mg base 1 c.IU "ties" Þ (Pr (kC c))):HP P w K mg base Ik 2 f fd Ü (Pr (pF c NS.into)):=by
 refine F.dv uP ?_ λHU A _ s H E hr=>(qC (qE<|Nq (Đ 0) I0 hr.m (da (Đ 1) HS))
 (q1 (qR (Od 4 rfl (cS 4 [1] ["number","one","other","delay","name"]) (ax<|gO (Đ 0) HV hr.m)
  (λ_ _ _ _ _=>cr K rfl<|af (pC 0) (af (pC 1)<|af (pC 2) (af (pC 3) aD)))
  (λ_ _ _ _ _=>c6<|dT bf cF (Đ 2) (Đ 4))
  (λ_ _ _ _ _=>Đ 0)))))
 rintro _ _ @⟨S,x,hl,hx⟩;exact⟨rfl,.inl<|.nx ⟨⟨rfl,by decide,⟨rfl,rfl⟩,⟨hx⟩⟩⟩ ⟨bh (λt=>decide _) ⟨⟨rfl,rfl,by decide,⟨hl⟩⟩,.l .lst⟩ hl λt _=>⟨_,⟨rfl,rfl⟩,eq_str rfl rfl,λ_=>rfl⟩,P9 _ _⟩⟩
noncomputable abbrev gb:Stmt:=aF (top 32) 16
theorem pU:ae Ü Ü (a8 gb):=IM
theorem qc (F:Iy K "out_of" "Net.out_of" gb f fd)(I0:Dm P w K mg base 1 c.IU "check_there" Ü (Pr (cE c)))(HV:Dm P w K mg base 1 c.IU "ties" Þ (Pr (kC c))):HP P w K mg base Ik 2 f fd Ü (Pr (pF c NS.JO)):=by
 refine F.dv pU ?_ λHU A _ s H E hr=>(qC (qE<|Nq (Đ 0) I0 hr.m (da (Đ 1) HS))
 (q1 (qR (Od 4 rfl (cS 4 [1] ["number","one","other","delay","name"]) (ax<|gO (Đ 0) HV hr.m)
  (λ_ _ _ _ _=>cr K rfl<|af (pC 0) (af (pC 1)<|af (pC 2) (af (pC 3) aD)))
  (λ_ _ _ _ _=>c6<|dT bf cF (Đ 1) (Đ 4))
  (λ_ _ _ _ _=>Đ 0)))))
 rintro _ _ @⟨S,x,hl,hx⟩;exact⟨rfl,.inl<|.nx ⟨⟨rfl,by decide,⟨rfl,rfl⟩,⟨hx⟩⟩⟩ ⟨bh (λt=>decide _) ⟨⟨rfl,rfl,by decide,⟨hl⟩⟩,.l .lst⟩ hl λt _=>⟨_,⟨rfl,rfl⟩,eq_str rfl rfl,λ_=>rfl⟩,P9 _ _⟩⟩
end
inductive iY (ts:List IJ) (x:Str):Str->Prop
 |refl:iY ts x x
 |step {t:IJ}:t∈ts->iY ts x t.2.1->iY ts x t.2.2.1
noncomputable abbrev oM (R:η):D:=Jq (R.map λy=>(.inr y,.bl true))
theorem oK {R:η}:(cI (R.map λy=>((.inr y:Key),D.bl true)) (.inr y)).isSome=decide (y∈R):=by have:=VS (l:=R) (f:=λz=>z) (g:=λ_=>D.bl true) (y:=y);rwa [List.map_id']at this
noncomputable abbrev lv (nm:Str)(b:List Str×η)(t:IJ):List Str×η:=if t.2.1=nm/\t.2.2.1∉b.1 then (b.1++[t.2.2.1],b.2++[t.2.2.1]) else b
inductive Led (ts:List IJ) (R':η):Nat->List Str×List Str->Prop
 |done:Led ts R' 0 (R',[])
 |step {n:Nat}{R W:η}{nm:Str}:Led ts R' n (ts.foldl (lv nm) (R,W))->Led ts R' (n+1) (R,W++[nm])
noncomputable def mh (ts:List IJ)(R:η):Nat:=ts.countP λt=>decide (t.2.2.1∉R)
theorem yA (ht:t∈ts)(h:t.2.2.1∉R):mh ts (R++[t.2.2.1])<mh ts R:=by obtain⟨a,b,rfl⟩:=List.append_of_mem ht;unfold mh;have k:∀ l:List IJ,l.countP (λu=>decide (u.2.2.1∉R++[t.2.2.1]))<=l.countP λu=>decide (u.2.2.1∉R):=λl=>List.countP_mono_left λu _ z=>DM λy=>DZ z<|Ew _ y;have:=k a;have:=k b;rw[List.countP_append,List.countP_append,List.countP_cons_of_neg<|by simp,List.countP_cons_of_pos<|by simpa using h];omega
structure DB (ts:List IJ) (x:Str) (b:List Str×η):Prop where
 ld:∀ y∈b.1,iY ts x y
 IX:b.1.length+mh ts b.1<=1+ts.length
theorem oJ (hn:iY ts x nm):∀ (us:List IJ)(b:List Str×η),(∀ t∈us,t∈ts)->DB ts x b->(∀ y∈b.2,y∈b.1)->DB ts x (us.foldl (lv nm) b)/\(∀ y∈(us.foldl (lv nm) b).2,y∈(us.foldl (lv nm) b).1)/\2 * mh ts (us.foldl (lv nm) b).1+(us.foldl (lv nm) b).2.length<=2 * mh ts b.1+b.2.length
 | [],b,_,I,h=>⟨I,h,DV _⟩
 | t::us,b,ht,I,h=>by
  rw[Gw];have OA:=λu hu=>ht u<|E6 _ hu;by_cases c:t.2.1=nm/\t.2.2.1∉b.1
  ·have ol:=yA (ht t E7) c.2;rw[show lv nm b t=_ from if_pos c];obtain⟨h1,h2,h3⟩:=oJ hn us (b.1++[t.2.2.1],b.2++[t.2.2.1]) OA ⟨λy hy=>(Ea.mp hy).elim (I.ld y) λz=>by rw[E5.mp z];exact .step (ht t E7)<|c.1▸hn,by have:=I.IX;simp;omega⟩ λy hy=>(Ea.mp hy).elim (λz=>Ew _<|h y z)<|Ec _;exact⟨h1,h2,by simp at h3 ol ⊢;omega⟩
  ·rw[show lv nm b t=_ from if_neg c];exact oJ hn us b OA I h
theorem BA:∀ (n:Nat)(R W:η),2 * mh ts R+W.length<=n->DB ts x (R,W)->(∀ y∈W,y∈R)->∃ R' k,Led ts R' k (R,W)/\DB ts x (R',[])
 | n,R,W,hn,I,h=>by
  rcases List.eq_nil_or_concat W with rfl|⟨W,nm,rfl⟩
  ·exact⟨R,0,.done,I.ld,I.IX⟩
  ·rw[List.concat_eq_append]at hn h I ⊢
   cases n with
   | zero=>simp at hn
   | succ n=>
    obtain⟨h1,h2,h3⟩:=oJ (I.ld nm<|h nm (by simp)) ts (R,W) (λ_ z=>z) ⟨I.ld,I.IX⟩ λy hy=>h y (by simp[hy]);obtain⟨R',k,a,b⟩:=BA n _ _ (by simp at hn h3;omega) h1 h2;exact⟨R',k+1,.step a,b⟩
theorem Vt (ts:List IJ)(x:Str):∃ R n,Led ts R n ([x],[x])/\(∀ y∈R,iY ts x y)/\R.length<=1+ts.length:=by obtain⟨R,n,h1,h2,h3⟩:=BA (ts:=ts) _ [x] [x] (DV _) ⟨λy hy=>by rw[E5.mp hy];exact .refl,by have:mh ts [x]<=ts.length:=List.countP_le_length;simp;omega⟩ λ_ z=>z;exact⟨R,n,h1,h2,by have:R.length+mh ts R<=1+ts.length:=h3;omega⟩
inductive ur:Ä
 |mk {ts:List IJ}{x:Str}{R:η}{n:Nat}:ts.length<=900->Led ts R n ([x],[x])->ur [bL ts,.str x] (oM R)
noncomputable abbrev nJ:Stmt:=top 27
theorem Ow:ae ["ties","start","reached","waiting","name","number","one","other","delay"] ["ties","start"] (a8 nJ):=IM
theorem zH (F:Iy K "led_to" "led_to" nJ f fd)(T:jB mg):HP P w K mg base Ik 1 f fd ["ties","start"] (Pr ur):=by
 have ND:=Ow.nd;refine F.dv Ow ?_ λHU A outer s H E hr=>(qC (qO (pS 2 ND<|dD1 (Đ 1) (dC cG)) λ_ _ _ h=>h)
 (qC (qO (pS 3 ND<|d7 (da (Đ 1) HS)) λ_ _ _ h=>h)
 (qC (qW E1 (dT qF gr (dB b5 aG rfl T.IH boot_len<|da (Đ 3) HS)<|dC aa)
  (qC (a1k<|pS 4 ND (a3e K Ek PySem.F.slot_list_pop PySem.F.type_list_pop Vj<|pv 3))
 (q1 (PR E1 rfl (ax<|Đ 0) (cr K rfl<|af (pN 5 ND) (af (pN 6 ND)<|af (pN 7 ND) (af (pN 8 ND) aD))) (fY K [5,6,7,8])
  (q1 (qI (PW.pt<|Ag (dT bf cF (Đ 6)<|Đ 4) (gf<|Ra (ao hr) (Đ 7) (Đ 2)))
  (qC (qP (cA (ao hr) (pv 2) (Đ 7) (dC cG) rfl) λ_ _ _ h=>h)
 (q1<|qA (aE<|Pz K Ek Ep Eo aO (pv 3) (a9 (Đ 7) D')) (λ_ _ _ h=>h)))
  q0))))))
 (q1<|qR (Đ 2)))))
 rintro _ _ @⟨ts,x,R,n,hl,L⟩;refine⟨rfl,.inl<|.nx ⟨⟨rfl,kS,rfl,rfl⟩⟩ (.nx ⟨⟨⟨rfl,rfl⟩,by simp,rfl⟩⟩ ?_)⟩;have o0:mh ts [x]<=ts.length:=List.countP_le_length;refine g6 (b:=(n,[x],[x])) (λb ε=>Led ts R b.1 b.2/\b.2.2.length<=b.2.1.length/\b.2.1.length+mh ts b.2.1<=1+ts.length/\∃ o4 o5 o6 o7 o8,ε=[.fz<|bL ts,.fz<|.str x,.ow<|oM b.2.1,.ow<|bI b.2.2,o4,o5,o6,o7,o8]) (·.1) ⟨L,DV _,Nat.add_le_add_left o0 _,_,_,_,_,_,rfl⟩ λgR ε SW=>?_;obtain⟨n,b⟩:=gR;obtain⟨L,hw,hf,o4,o5,o6,o7,o8,he⟩:=SW;dsimp only at L hw hf he;subst he;have rd:=gt_int (ε:=[some<|bL ts,some<|.str x,some<|oM b.1,some<|bI b.2,o4.a,o5.a,o6.a,o7.a,o8.a]) (ra:=rF M0<|rA (rV 3) Of) (rb:=rC<|.int 0) ⟨⟨rfl,rfl⟩,M0.m⟩ rfl
 cases L with
 | done=>exact .inl ⟨rd,rfl,rfl⟩
 | @step n R' W nm L=>
  rw[DM<|by simp]at rd;have hw:W.length+1<=R'.length:=by simpa using hw
  refine .inr ⟨rd,(n,ts.foldl (lv nm) (R',W)),oW (by rw[show bI (W++[nm])=.lst (W.map .str++[.str nm]) from congrArg D.lst DP];exact⟨rfl⟩) ?_⟩;refine YW ts (λb ε=>b.2.length<=b.1.length/\b.1.length+mh ts b.1<=1+ts.length/\∃ o5 o6 o7 o8,ε=[.fz<|bL ts,.fz<|.str x,.ow<|oM b.1,.ow<|bI b.2,.fz<|.str nm,o5,o6,o7,o8]) (lv nm) (b:=(R',W)) ⟨by show W.length<=R'.length;omega,hf,_,_,_,_,rfl⟩ ⟨rfl,.l .lst⟩ (λb t ε ht gR=>?_) λε' gR=>by obtain⟨hb,hf,o5,o6,o7,o8,he⟩:=gR;exact⟨⟨L,hb,hf,_,_,_,_,_,he⟩,EX _⟩
  obtain⟨hb,hf,o5,o6,o7,o8,he⟩:=gR;subst he;have r1:=eq_str (ε:=[some<|bL ts,some<|.str x,some<|oM b.1,some<|bI b.2,some<|.str nm,some<|.int t.1,some<|.str t.2.1,some<|.str t.2.2.1,some<|.int t.2.2.2]) (ra:=rV 6) (rb:=rV 4) rfl rfl;by_cases c1:t.2.1=nm
  ·rw[DM c1]at r1;by_cases c2:t.2.2.1∈b.1
   ·exact⟨_,⟨_,rfl,rfl,rfl⟩,_,.f (.t r1 ⟨rfl,rfl,.k rfl kS (by rw[oK,DM c2];rfl)⟩) rfl,by rw[show lv nm b t=b from if_neg λz=>z.2 c2];exact⟨hb,hf,_,_,_,_,rfl⟩⟩
   ·have ol:=yA ht c2;refine⟨_,⟨_,rfl,rfl,rfl⟩,_,.t (.t r1 ⟨rfl,rfl,.k rfl kS (by rw[oK,DQ c2];rfl)⟩)<|.nx ⟨rfl,by rw[DH];omega,.z rfl,rfl,kS⟩ ⟨rfl,by rw[DH];omega,.z rfl⟩,?_⟩;rw[show lv nm b t=_ from if_pos ⟨c1,c2⟩];refine⟨by simpa using hb,by simp;omega,.fz<|.int t.1,.fz<|.str t.2.1,.fz<|.str t.2.2.1,.fz<|.int t.2.2.2,?_⟩;rw[dY λz=>c2<|by simpa using z];dsimp only;rw[show oM (b.1++[t.2.2.1])=Jq (b.1.map (λy=>((.inr y:Key),D.bl true))++[(.inr t.2.2.1,.bl true)]) from congrArg Jq DP,show bI (b.2++[t.2.2.1])=.lst (b.2.map .str++[.str t.2.2.1]) from congrArg D.lst DP];rfl
  ·rw[DQ c1]at r1;exact⟨_,⟨_,rfl,rfl,rfl⟩,_,.f (.f r1) rfl,by rw[show lv nm b t=b from if_neg λz=>c1 z.1];exact⟨hb,hf,_,_,_,_,rfl⟩⟩
end K92
namespace Mw
theorem OD [DecidableEq β](g:α->β):∀ (xs:List β)(ts:List α),xs.Nodup->(∀ t∈ts,g t∈xs)->(xs.flatMap λx=>ts.filter λt=>decide (g t=x)).Perm ts
 | [],ts,_,h=>by
  cases ts with
  | nil=>exact .nil
  | cons t _=>exact absurd (h t<|by simp) (by simp)
 | x::xs,ts,nd,h=>by
  have nd:=Ex.mp nd;rw[GX];have e:(xs.flatMap λy=>ts.filter λt=>decide (g t=y))=xs.flatMap λy=>(ts.filter λt=>!decide (g t=x)).filter λt=>decide (g t=y):=by
   rw[List.flatMap_def,List.flatMap_def];congr 1;refine E9 λy hy=>?_;rw[List.filter_filter];refine HI λt _=>?_;by_cases c:g t=y
   ·have:¬ g t=x:=λz=>nd.1 (by rw[<- z,c];exact hy);simp[c,this];intro z;exact this (c.trans z)
   ·simp[c]
  rw[e];have ih:=OD g xs (ts.filter λt=>!decide (g t=x)) nd.2 λt ht=>by
   obtain⟨h1,h2⟩:=DY.mp ht;have h3:=h t h1;rcases E3.mp h3 with z|z
   ·simp[z]at h2
   ·exact z
  exact (List.Perm.append_left _ ih).trans (List.filter_append_perm _ _)
theorem Pf [DecidableEq β]:∀ (l1 l2:List β),l1.Nodup->(∀ x∈l1,x∈l2)->l2.length<=l1.length->∀ x∈l2,x∈l1
 | [],l2,_,_,hl,x,hx=>by
  cases l2 with
  | nil=>exact hx
  | cons _ _=>simp at hl
 | a::l1,l2,nd,sub,hl,x,hx=>by
  have nd:=Ex.mp nd;have ha:=sub a (by simp);by_cases c:x=a
  ·rw[c];simp
  ·refine E6 _ (Pf l1 (l2.erase a) nd.2 (λy hy=>?_) ?_ x ?_)
   ·have ne:y≠a:=λz=>nd.1<|z▸hy;exact (Gd ne).mpr (sub y<|by simp[hy])
   ·rw[Gg ha];simp at hl;omega
   ·exact (Gd c).mpr hx
theorem QD {l1:Ξ}(p:l1.Perm l2)(h1:l1.Pairwise (·<=·))(h2:l2.Pairwise (·<=·)):l1=l2:=
 List.Perm.eq_of_pairwise (λa b _ _ h3 h4=>Int.le_antisymm h3 h4) h1 h2 p
end Mw
namespace K92
open PySem L2
open PyProof.Rows (boot_all boot_bool boot_dict boot_int boot_list boot_sorted boot_str boot_tuple)
structure Dx (mg:Ω):Prop where
 Ko:mg "dict"=none
 Pl:mg "sorted"=none
section
variable {c:Cl}{f:Addr}
theorem CS {S:NS}(h:x∈S.names):∃ p∈S.Ia,p.1=x/\cI (S.Ia.map λp=>(.inr p.1,gI c p)) (.inr x)=some (gI c p):=by have:=kh (c:=c) (S:=S) (x:=x);rw[DM h,gS,GS,Fp]at this;obtain⟨p,hp⟩:=this;exact⟨p,ED hp,Sum.inr.inj<|DZ (Fy (p:=λp:Str×Kd=>decide ((Sum.inr p.1)=.inr x)) hp),by rw[gS,hp];rfl⟩
inductive iF (c:Cl):Ä
 |mk {S:NS}{x y:Str}:x∈S.names->y∈S.names->S.HM.length<=900->(∀ p∈S.Ia,p.1=y->Sf p.2=true)->¬ iY S.HM y x->iF c [aI c S,.str x,.str y] .non
noncomputable abbrev cL:Stmt:=aF (top 32) 7
theorem jP:ae à à (a8 cL):=IM
theorem jY (F:Iy K "check_ends" "Net.check_ends" cL f fd)(O:Cl.Ok K c)(LP:∀ C,jH c C->Dm P w K mg base 1 C "hears" Þ (Pr (iS (!decide (C=c.house)))))(I0:Dm P w K mg base 1 c.IU "check_there" Ü (Pr (cE c)))(HV:Dm P w K mg base 1 c.IU "ties" Þ (Pr (kC c)))(Oa:Df P w K mg base 1 "led_to" ["ties","start"] (Pr ur)):HP P w K mg base Ik 2 f fd à (Pr (iF c)):=by
 have Ie:=O.W2;refine F.dv jP ?_ λHU A outer s H E hr=>(qC (qE<|Nq (Đ 0) I0 hr.m (da (Đ 1) HS))
 (qC (qE<|Nq (Đ 0) I0 hr.m (da (Đ 2) HS))
 (qC (qI (Af<|dV (cf<|Dq (dS (ao hr) (PH Ie<|Đ 0)<|Đ 2) LP hr.m))
  (q1 qN)
  q0)
 (q1 (qI (TC (ao hr) (Đ 1)<|dF Oa hr.m rfl (da (gO (Đ 0) HV hr.m)<|da (Đ 2) HS))
  (q1 qN)
  q0)))))
 rintro _ _ @⟨S,x,y,hx,hy,hl,hk,hn⟩;obtain⟨p,hp,ep,hv⟩:=CS hy;have hb:iS (!decide (c.of p.2=c.house)) [gI c p] (.bl true):=by rw[iA O,hk p hp ep];exact⟨⟩
 obtain⟨R,n,h1,h2,_⟩:=Vt S.HM y;exact⟨rfl,.inr ⟨rfl,_,.nx ⟨⟨rfl,by decide,⟨rfl,rfl⟩,⟨hx⟩⟩⟩<|.nx ⟨⟨rfl,by decide,⟨rfl,rfl⟩,⟨hy⟩⟩⟩ (.nx (.f ⟨⟨⟨rfl,rfl,rfl⟩,rfl,.k hv kS⟩,⟨_,rfl⟩,by decide,hb⟩ rfl)<|.f ⟨rfl,⟨⟨⟨rfl,rfl,by decide,⟨by omega⟩⟩,rfl,rfl⟩,⟨hl,h1⟩⟩,.k rfl kS (by rw[oK,DQ λz=>hn<|h2 x z];rfl)⟩ rfl)⟩⟩
noncomputable def ig (ts:η)(b:Str×η):Bool:=!decide (b.1∈ts)&&b.2.all λy=>decide (y∈ts)
noncomputable def bA (bs:List (Str×η))(ts:η):Option Str:=(bs.find? (ig ts)).map (·.1)
noncomputable def UT:Option Str->D
 | none=>.non
 | some x=>.str x
noncomputable abbrev ug (bs:List (Str×η)):D:=Jq (bs.map λb=>(.inr b.1,bI b.2))
inductive JI:Ä
 |mk {bs:List (Str×η)}{ts:η}:(bs.map (·.1)).Nodup->(∀ b∈bs,b.2.length<=1000)->JI [ug bs,bI ts] (UT (bA bs ts))
theorem Vf {l:List α}{f:α->Str}(h:(l.map f).Nodup){g:α->D}:((l.map λx=>((.inr (f x):Key),g x)).map (·.1)).Nodup:=by
 rw[DL];have:(l.map f).map (Sum.inr)=l.map ((λx:Key×D=>x.1) ∘ λx=>(.inr<|f x,g x)):=by rw[DL];rfl
 rw[<- this];exact List.Pairwise.map _ (λ_ _ h z=>h<|Sum.inr.inj z) h
theorem tV {l:List α}{f:α->Int}(h:(l.map f).Nodup){g:α->D}:((l.map λx=>((.inl (f x):Key),g x)).map (·.1)).Nodup:=by
 rw[DL];have:(l.map f).map (Sum.inl)=l.map ((λx:Key×D=>x.1) ∘ λx=>(.inl<|f x,g x)):=by rw[DL];rfl
 rw[<- this];exact List.Pairwise.map _ (λ_ _ h z=>h<|Sum.inl.inj z) h
noncomputable abbrev fh:Stmt:=top 28
theorem Lg:ae ["begins","told","name"] ["begins","told"] (a8 fh):=IM
theorem ox (F:Iy K "first_ready" "first_ready" fh f fd)(T:jB mg):HP P w K mg base Ik 1 f fd ["begins","told"] (Pr JI):=by
 have ND:=Lg.nd;refine F.dv Lg ?_ λHU A outer s H E hr=>(qC (PR E1 rfl (ax<|Đ 0) (pN 2 ND) (aN 2)
  (q1 (qI (PW.pt (Ag (Ra (ao hr) (Đ 2)<|Đ 1) (gf (dV (cf (dB ud (fX K rfl) rfl T.Oz boot_all (da (Od 0 rfl (cS 1 [1] ["one","told"]) (ax<|dS (ao hr) (Đ 0) (Đ 2))
  (λ_ _ _ _ _=>pC 0)
  (λ_ _ _ _ _=>Lp)
  (λ_ _ _ _ _=>dIn (ao hr) (Đ 0)<|Đ 1)) HS)))))))
  (q1<|qR (Đ 2))
  q0)))
 (q1<|qR (dC b6)))
 rintro _ _ @⟨bs,ts,nd,hl⟩;refine⟨rfl,.inl ?_⟩;refine h8 bs (λε=>∃ o,ε=[.fz<|ug bs,.fz<|bI ts,o]) (ig ts) (λb=>.str b.1) ⟨_,rfl⟩ ⟨rfl,Itm.m⟩ (λb ε hb gR=>?_) (λb h=>by unfold bA;rw[h];rfl) λh ε _=>⟨rfl,by unfold bA;rw[h];rfl⟩
 obtain⟨o,he⟩:=gR;subst he;refine⟨_,rfl,?_⟩;unfold ig;by_cases c:b.1∈ts
 ·rw[DM c];exact⟨_,.f (.f ⟨rfl,rfl,by have:=mX (n:=true) (i:=b.1) (ks:=ts);rwa [DM c]at this⟩) rfl,_,rfl⟩
 ·rw[DQ c];have r1:rO (RX true) (rV 2) (rV 1) [some<|ug bs,some<|bI ts,some<|.str b.1] (.bl true):=⟨rfl,rfl,by have:=mX (n:=true) (i:=b.1) (ks:=ts);rwa [DQ c]at this⟩
  have r2:rF Q6 (rA (rL 0 [1] (Wx<|rO Sub (rV 0) (rV 2)) AU<|rO (RX false) (rV 0) (rV 1)) Of) [some<|ug bs,some<|bI ts,some<|.str b.1] (.bl<|b.2.all λy=>decide (y∈ts)):=⟨⟨aR ⟨⟨rfl,rfl,.k (fO (Vf nd)<|DS hb) kS⟩,.l .lst⟩ (hl b hb) λy _=>⟨_,rfl,rfl,rfl,mX⟩,rfl⟩,by have:=Q6.mk (by rw[DL];rfl:b.2.map (λy=>D.bl<|decide (y∈ts))=_);rwa [Hw]at this⟩
  cases z:b.2.all λy=>decide (y∈ts) with
  | true=>rw[z]at r2;exact .t (.t r1 r2) ⟨rfl,rfl⟩
  | false=>rw[z]at r2;exact⟨_,.f (.t r1 r2) rfl,_,rfl⟩
noncomputable def OL {α:Type}(f:α->Int)(l:List α):List α:=l.mergeSort λa b=>decide (f a<=f b)
theorem Jd {f:α->Int}:(OL f l).Perm l:=List.mergeSort_perm _ _
theorem UP {f:α->Int}:((OL f l).map f).Pairwise (·<=·):=by rw[G9];exact (List.pairwise_mergeSort (le:=λa b=>decide (f a<=f b)) (λa b c h1 h2=>DM<|Int.le_trans (DZ h1) (DZ h2)) (λa b=>by simp only[Gy,FZ];exact Int.le_total _ _) l).imp DZ
inductive cW:Ä
 |mk {α:Type}{l:List α}{f:α->Int}{g:α->D}:l.length<64->(l.map f).Nodup->cW [Jq (l.map λx=>(.inl (f x),g x))] (Jq ((OL f l).map λx=>(.inl (f x),g x)))
noncomputable abbrev i8:Stmt:=top 55
theorem sG:ae ["told"] ["told"] (a8 i8):=IM
theorem tM (F:Iy K "by_number" "by_number" i8 f fd)(T:Dx mg):HP P w K mg base Ik 1 f fd ["told"] (Pr cW):=by
 refine F.dv sG ?_ λHU A _ s H E hr=>(q1 (qR (Sv ky (eA rfl) rfl T.Ko boot_dict (da (Od 0 rfl (cS 1 [0] ["number","told"]) (ax<|dB xW (mP rfl) rfl T.Pl boot_sorted (da (Đ 0) HS))
  (λ_ _ _ _ _=>pC 0)
  (λ_ _ _ _ _=>Lp)
  (λ_ _ _ _ _=>mM<|da (Đ 0) (da (dS (ao hr) (Đ 1)<|Đ 0) HS))) HS))))
 rintro _ _ @⟨α,l,f,g,hl,nd⟩;have pm:=Jd (f:=f) (l:=l);have so:=UP (f:=f) (l:=l);generalize OL f l=m at pm so;refine⟨rfl,.inl ⟨⟨⟨aR ⟨⟨⟨rfl,rfl⟩,?_⟩,.l .lst⟩ (by rw[pm.length_eq];omega) λx hx=>⟨_,rfl,⟨⟨rfl,⟨rfl,rfl,.k (fO (tV nd)<|DS (pm.mem_iff.mp hx)) kI⟩,rfl⟩,by simp,rfl⟩⟩,rfl⟩,Sw.m (f:=λx=>.inl _) (by rw[pm.length_eq];omega) ?_⟩,rfl⟩⟩
 ·have:=cSo.k (ð:=l.map λx=>(_,g x)) (by rw[DL,DL];rfl) (by simpa using hl) λOM h1 h2=>Mw.QD (h1.trans (pm.map _).symm) h2 so;rwa [DL]at this
 ·have:=tV ((pm.map _).nodup_iff.mpr nd) (g:=g);rwa [DL]at this
end
abbrev _root_.Λ:=Option Ξ
abbrev J1:=Int×Λ
noncomputable def Og:Option Ξ->D
 | none=>.non
 | some ks=>rw ks
noncomputable abbrev zL (m:J1):D:=.tup [.int m.1,Og m.2]
noncomputable abbrev iu (ms:List J1):D:=.lst (ms.map zL)
noncomputable def bn (S:NS)(x:Str):Λ:=if S.Ji.map (·.1)=some x then none else some (S.into x)
noncomputable def HR (S:NS)(ns:η):List J1:=ns.flatMap λx=>(S.JO x).map λk=>(k,bn S x)
theorem oE (S:NS)(ns:η)(x:Str):HR S (ns++[x])=HR S ns++(S.JO x).map λk=>(k,bn S x):=by unfold HR;simp
theorem xx (S:NS)(ns:η)(i:Nat):(HR S (ns.take i)).length<=(HR S ns).length:=by
 unfold HR
 conv=>rhs;rw[<- EF i ns,EV,DT]
 omega
section
variable {c:Cl}
abbrev _root_.Æ:=List Str->Prop
inductive pE (c:Cl) (ord:NS->Æ):Ä
 |mk {S:NS}{ns:η}:ord S ns->pE c ord [aI c S] (bI ns)
inductive iP (c:Cl) (ord:NS->Æ):Ä
 |mk {S:NS}{ns:η}:ord S ns->(∀ x∈ns,x∈S.names)->S.HM.length<=1000->(HR S ns).length<=1000->iP c ord [aI c S] (iu (HR S ns))
theorem Dh (ha:ra ε (.str x))(hb:rb ε (rg h)):rO (fE false) ra rb ε (.bl (decide (h.map (·.1)=some x))):=by
 refine .mk ha hb ?_
 cases h with
 | none=>exact .mk rfl rfl rfl (congrArg _ rfl)
 | some p=>exact .mk rfl rfl rfl (congrArg D.bl<|by exact FD.mpr ⟨λz=>congrArg V.str (Option.some.inj z).symm,λz=>congrArg _ (V.str.inj z).symm⟩)
noncomputable abbrev ff:Stmt:=top 54
theorem Le:ae ["net","home","told","name","mixed","number"] ["net"] (a8 ff):=IM
theorem oo (F:Iy K "mixing_ties" "mixing_ties" ff f fd)(IT:Dm P w K mg base 2 c.IU "home" Þ (Pr (wG c)))(Kt:Dm P w K mg base 2 c.IU "ordered" Þ (Pr (pE c ord)))(IS:Dm P w K mg base 2 c.IU "into" Ü (Pr (pF c NS.into)))(KR:Dm P w K mg base 2 c.IU "out_of" Ü (Pr (pF c NS.JO))):HP P w K mg base Ik 3 f fd ["net"] (Pr (iP c ord)):=by
 have ND:=Le.nd;refine F.dv Le ?_ λHU A outer s H E hr=>(qC (qS (pS 1 ND<|gO (Đ 0) IT hr.m) λ_ _ _ h=>h)
 (qC (qO (pS 2 ND<|d7 HS) λ_ _ _ h=>h)
 (qC (PR E1 rfl (ax<|gO (Đ 0) Kt hr.m) (pN 3 ND) (aN 3)
  (qC (qS (pS 4 ND<|Th (dT bf cF (Đ 3)<|Đ 1) (dC b6) (Nq (Đ 0) IS hr.m<|da (Đ 3) HS)) λ_ _ _ h=>h)
 (q1 (PR E1 rfl (ax<|Nq (Đ 0) KR hr.m (da (Đ 3) HS)) (pN 5 ND) (aN 5)
  (q1<|qA (aE<|Pz K Ek Ep Eo aO (pv 2) (a9 (mM<|da (Đ 5) (da (Đ 4) HS)) D')) (λ_ _ _ h=>h))))))
 (q1<|qR (Đ 2)))))
 rintro _ _ @⟨S,ns,ho,hn,hl,hm⟩;refine⟨rfl,.inl<|.nx ⟨rfl,rfl,by decide,⟨⟩⟩ (.nx ⟨⟨rfl,by simp,rfl⟩⟩ ?_)⟩;refine eZ ns (λi ε=>∃ o3 o4 o5,ε=[.fz<|aI c S,.fz<|rg S.Ji,.ow<|iu (HR S<|ns.take i),o3,o4,o5]) ⟨_,_,_,rfl⟩ ⟨⟨rfl,rfl,by decide,⟨ho⟩⟩,.l .lst⟩ (λi x ε hx gR=>?_) λε gR=>?_
 ·obtain⟨o3,o4,o5,he⟩:=gR;subst he;have xn:=hn x<|DO hx;have tl:=xx S ns<|i+1;rw[be hx,oE,DT,DH]at tl;rw[be hx,oE];refine⟨_,rfl,oW (ε1:=[.fz<|aI c S,.fz<|rg S.Ji,.ow<|iu (HR S<|ns.take i),.fz<|.str x,.fz<|Og (bn S x),o5]) ?_ ?_⟩
  ·have r:=Dh (ε:=[some<|aI c S,some<|rg S.Ji,none,some<|.str x,o4.z,o5.z]) (ra:=rV 3) (rb:=rV 1) rfl rfl;unfold bn;by_cases z:S.Ji.map (·.1)=some x
   ·rw[DM z]at r;rw[if_pos z];exact⟨.t r rfl⟩
   ·rw[DQ z]at r;rw[if_neg z];exact⟨.f r ⟨rfl,by decide,⟨rfl,rfl⟩,⟨hl,xn⟩⟩⟩
  ·refine W4 (S.JO x) (λj ε=>∃ o5,ε=[.fz<|aI c S,.fz<|rg S.Ji,.ow<|iu (HR S (ns.take i)++((S.JO x).take j).map λk=>(k,bn S x)),.fz<|.str x,.fz<|Og (bn S x),o5]) ⟨_,by rw[Gj,Fu,El]⟩ ⟨⟨rfl,by decide,⟨rfl,rfl⟩,⟨hl,xn⟩⟩,.l .lst⟩ (λj k ε hk gR=>?_) λε' ⟨o5,he⟩=>⟨_,_,_,by rw[Et]at he;exact he⟩
   obtain⟨o5,he⟩:=gR;subst he;have e:iu (HR S (ns.take i)++((S.JO x).take<|j+1).map λk=>(k,bn S x))=.lst ((HR S (ns.take i)++((S.JO x).take j).map λk=>(k,bn S x)).map zL++[zL (k,bn S x)]):=by rw[be hk,DP,<- Ez];exact congrArg D.lst DP
   exact⟨_,rfl,_,⟨rfl,by simp;omega,.z ⟨⟨rfl,rfl,rfl⟩,by simp,rfl⟩⟩,.fz<|.int k,by rw[e];rfl⟩
 ·obtain⟨_,_,_,he⟩:=gR;rw[he,Et];exact⟨rfl,rfl⟩
end
section
variable {C:Addr}
inductive lF:Ä
 |mk {n:Int}:My.JK n=true->n<=1000000->lF [.int n] (.bl true)
theorem le_int (ha:ra ε (.int i))(hb:rb ε (.int j)):rO (fI (λ_ _=>True) λi j=>PV (.bl (decide (i<=j)))) ra rb ε (.bl (decide (i<=j))):=⟨ha,hb,⟨trivial⟩⟩
noncomputable abbrev jd:Stmt:=top 35
theorem Nm:ae ["number","divisor"] û (a8 jd):=IM
theorem va (F:Iy K "is_prime" "is_prime" jd f fd):HP P w K mg base Ik 1 f fd û (Pr lF):=by
 have ND:=Nm.nd;refine F.dv Nm ?_ λHU A outer s H E hr=>(qC (qI (dT lQ gr (Đ 0)<|dC aa)
  (q1<|qR (dC cG))
  q0)
 (qC (qS (pS 1 ND<|dC aa) λ_ _ _ h=>h)
 (qC (qW E1 (dT qB gr (dO cC NB (Đ 1)<|Đ 1)<|Đ 0)
  (qC (qI (dT bf cF (dO bK NB (Đ 0)<|Đ 1)<|dC aa)
  (q1<|qR (dC cG))
  q0)
 (q1<|UX (x8 (i:=1) ND rfl (by first|exact Or.inl rfl|exact Or.inr rfl) (dC aa) xI))))
 (q1<|qR (dC cG)))))
 rintro _ _ @⟨n,hP,hn⟩;have h2:=(My.HY n).mp hP;have r0:=lt_int (ε:=[some<|.int n,none]) (ra:=rV 0) (rb:=rC<|.int 2) rfl rfl;rw[DQ<|by omega]at r0;refine⟨rfl,.inl<|.nx (.f r0 rfl) (.nx ⟨rfl⟩ ?_)⟩;refine g6 (λd ε=>ε=[.fz<|.int n,.fz<|.int d]/\2<=d/\d<=n) (λd=>(n+1 - d).toNat) ⟨rfl,by omega,by omega⟩ λd ε gR=>?_;obtain⟨he,d2,dn⟩:=gR;subst he;have rd:=le_int (ε:=[some<|.int n,some<|.int d]) (ra:=rO (fI R9 λi j=>PV<|.int (i * j)) (rV 1)<|rV 1) (rb:=rV 0) ⟨rfl,rfl,⟨.inl ⟨by omega,by omega⟩⟩⟩ rfl;by_cases z:d * d<=n
 ·rw[DM z]at rd;have a:2 * d<=d * d:=Int.mul_le_mul_of_nonneg_right d2 (by omega);have r1:=eq_int (ε:=[some<|.int n,some<|.int d]) (ra:=rO (fI (λ_ j=>0<j) λi j=>PV<|.int (i % j)) (rV 0)<|rV 1) (rb:=rC<|.int 0) ⟨rfl,rfl,⟨by omega⟩⟩ rfl;rw[DQ (by rw[<- EH _ (by omega)];exact h2.2 d d2 z)]at r1;exact .inr ⟨rd,d+1,_,.nx (.f r1 rfl) ⟨rfl,rfl⟩,⟨rfl,by omega,by omega⟩,by omega⟩
 ·rw[DQ z]at rd;exact .inl ⟨rd,rfl,rfl⟩
inductive iQ:Ä
 |mk {n:Int}:iQ [.int n] (.bl true)
inductive fM (C:Addr):Ä
 |mk {p n:Int}:0<=n->n<p->fM C [fD C p,.int n] (.bl true)
noncomputable abbrev dP:Stmt:=top 57
theorem m5:ae Ď Ď (a8 dP):=IM
theorem mD (F:Iy K "is_number_of" "is_number_of" dP f fd)(T:Txt K mg C)(Ju:Df P w K mg base 1 "is_whole" û (Pr iQ)):HP P w K mg base Ik 2 f fd Ď (Pr (fM C)):=by
 have Kz:=T.fl;refine F.dv m5 ?_ λHU A _ s H E hr=>(q1<|qR (BW (dF Ju hr.m rfl<|da (Đ 1) HS)<|jk (dCh (nY qB lQ (dC aa) (Đ 1)<|PH Kz (Đ 0)) gr gr)))
 rintro _ _ @⟨p,n,h0,h1⟩;exact⟨rfl,.inl ⟨.t ⟨⟨rfl,rfl⟩,⟨⟩⟩<|.t rfl rfl (by have:=fI.mk (C:=λ_ _=>True) (g:=λi j=>PV<|.bl (decide (i<=j))) (i:=0) (j:=n) trivial;rwa [DM h0]at this) ⟨rfl,rfl,rfl⟩ (by have:=fI.mk (C:=λ_ _=>True) (g:=λi j=>PV<|.bl (decide (i<j))) (i:=n) (j:=p) trivial;rwa [DM h1]at this),rfl⟩⟩
inductive KO (C:Addr):Ä
 |mk {p:Int}{ns:Ξ}:ns.length<=1000->(∀ n∈ns,0<=n/\n<p)->KO C [fD C p,rw ns,.int ns.length] (.bl true)
noncomputable abbrev i6:Stmt:=top 58
theorem sD:ae ÿ ÿ (a8 i6):=IM
theorem tK (F:Iy K "is_row_of" "is_row_of" i6 f fd)(T:jB mg)(JV:Df P w K mg base 2 "is_number_of" Ď (Pr (fM C))):HP P w K mg base Ik 3 f fd ÿ (Pr (KO C)):=by
 refine F.dv sD ?_ λHU A outer s H E hr=>(q1 (qR (BW (dM bf cF (dB b5 aG rfl T.IH boot_len<|da (Đ 1) HS)<|Đ 2) (jk (dB ud (fX K rfl) rfl T.Oz boot_all (da (Od 0 rfl (cS 1 [0] ["number","field"]) (ax<|Đ 1)
  (λ_ _ _ _ _=>pC 0)
  (λ_ _ _ _ _=>Lp)
  (λ_ _ _ _ _=>dF JV hr.m rfl<|da (Đ 1) (da (Đ 0) HS))) HS))))))
 rintro _ _ @⟨p,ns,hl,hn⟩;have r1:=eq_int (ε:=[some<|fD C p,some<|rw ns,some<|.int ns.length]) (ra:=rF M0<|rA (rV 1) Of) (rb:=rV 2) ⟨⟨rfl,rfl⟩,M0.m⟩ rfl;rw[DM rfl]at r1;exact⟨rfl,.inl ⟨.t r1 ⟨⟨aR (xs:=ns) (u:=.int) (h:=λ_=>.bl true) ⟨rfl,.l .lst⟩ hl λn hm=>⟨_,rfl,⟨rfl,rfl,rfl⟩,⟨(hn n hm).1,(hn n hm).2⟩⟩,rfl⟩,Q6.mk (bs:=ns.map λ_=>true) (by rw[DL];rfl)⟩,by simp⟩⟩
abbrev aU:=Int×Ξ
noncomputable abbrev bz (ř:List aU):D:=Jq (ř.map λr=>(.inl r.1,rw r.2))
noncomputable def inc (msg:Ξ)(cs:Cs):Option Ξ->Ξ
 | none=>msg
 | some ks=>ks.map λk=>(aA cs k).getD 0
inductive eD:Ä
 |n {msg:Ξ}{d:D}:eD [rw msg,.non,d] (rw msg)
 |s {msg ks:Ξ}{cs:Cs}:ks.length<=1000->(∀ k∈ks,∃ n,aA cs k=some n)->eD [rw msg,rw ks,Pa cs] (rw (inc msg cs (some ks)))
noncomputable abbrev i7:Stmt:=top 60
theorem sE:ae ø ø (a8 i7):=IM
theorem tL (F:Iy K "coming_in" "coming_in" i7 f fd):HP P w K mg base Ik 1 f fd ø (Pr eD):=by
 refine F.dv sE ?_ λHU A _ s H E hr=>(qC (qI (dT l9 qK (Đ 1)<|dC b6)
  (q1<|qR (Đ 0))
  q0)
 (q1 (qR (Od 0 rfl (cS 1 [2] ["number","carries"]) (ax<|Đ 1)
  (λ_ _ _ _ _=>pC 0)
  (λ_ _ _ _ _=>Lp)
  (λ_ _ _ _ _=>dS (ao hr) (Đ 1)<|Đ 0)))))
 intro l d h
 cases h with
 | n=>exact⟨rfl,.inl<|.rt (.t ⟨rfl,rfl,by exact⟨⟩⟩ ⟨rfl,rfl⟩)⟩
 | @s msg ks cs hl hk=>exact⟨rfl,.inl<|.nx (.f ⟨rfl,rfl,by exact⟨⟩⟩ rfl) ⟨aR ⟨rfl,.l .lst⟩ hl λk hm=>⟨_,rfl,rfl,rfl,by obtain⟨n,hn⟩:=hk k hm;rw[hn];exact .k (sg hn) kI⟩,P9 _ _⟩⟩
end
noncomputable def jz (fo:Λ)(k:Int):Bool:=match fo with
 | none=>false
 | some ks=>decide (k∈ks)
noncomputable def jS (ř:List aU)(n:Int):Option aU:=ř.find? λr=>decide (r.1=n)
noncomputable def bD (ř:List aU)(k:Int):Ξ:=((jS ř k).map (·.2)).getD []
theorem gQ (h:jS ř k=some r):cI (ř.map λr=>((.inl r.1:Key),rw r.2)) (.inl k)=some (rw r.2):=by rw[gS,funext λx=>FD.mpr ⟨Sum.inl.inj,congrArg _⟩,show ř.find? _=some r from h];rfl
noncomputable def cq (p:Int)(ř:List aU)(msg:Ξ)(fo:Λ)(cs:Cs)(m:J1):Int:=if jz fo m.1 then 0 else Mx.Ig p (bD ř m.1) (inc msg cs m.2)
noncomputable def ay (p:Int)(ř:List aU)(msg:Ξ)(fo:Λ):List J1->Cs->Cs
 | [],cs=>cs
 | m::ms,cs=>ay p ř msg fo ms (cs++[(m.1,cq p ř msg fo cs m)])
theorem jx (p:Int)(ř:List aU)(msg:Ξ)(fo:Λ)(m:J1):∀ (ms:List J1)(cs:Cs),ay p ř msg fo (ms++[m]) cs=ay p ř msg fo ms cs++[(m.1,cq p ř msg fo (ay p ř msg fo ms cs) m)]
 | [],_=>rfl
 | _::ms,_=>jx p ř msg fo m ms _
theorem cP (p:Int)(ř:List aU)(msg:Ξ)(fo:Λ):∀ (ms:List J1)(cs:Cs),(ay p ř msg fo ms cs).map (·.1)=cs.map (·.1)++ms.map (·.1)
 | [],_=>by simp[ay]
 | m::ms,cs=>by show (ay p ř msg fo ms _).map (·.1)=_;rw[cP p ř msg fo ms];simp
theorem fU (h:k∈cs.map (·.1)):∃ n,aA cs k=some n:=by obtain⟨x,h1,h2⟩:=DI.mp h;obtain⟨y,hy⟩:=Fp.mp (GY (p:=λx:Int×Int=>decide (x.1=k)) |>.mpr ⟨x,h1,DM h2⟩);exact⟨y.2,by unfold aA;rw[hy];rfl⟩
structure uw (ms:List J1):Prop where
 nd:(ms.map (·.1)).Nodup
 IX:ms.length<64
 ahead:∀ (i:Nat) m ks,ms[i]?=some m->m.2=some ks->ks.length<=1000/\∀ k∈ks,k∈(ms.take i).map (·.1)
def RY (p:Int)(l:Ξ):Prop:=∀ z∈l,0<=z/\z<p
structure wI (p:Int) (ms:List J1) (ř:List aU) (fo:Λ):Prop where
 p0:0<p
 p1:p<=1000000
 fits:uw ms
 has:∀ m∈ms,jz fo m.1=false->∃ r,jS ř m.1=some r/\RY p r.2/\r.2.length<=1000
section
variable {C:Addr}
inductive z6 (C:Addr):Ä
 |mk {p:Int}{ms:List J1}{ř:List aU}{msg:Ξ}{fo:Λ}:wI p ms ř fo->z6 C [fD C p,iu ms,bz ř,rw msg,Og fo] (Pa (OL (·.1) (ay p ř msg fo ms [])))
theorem Ac (h1:ra ε (Og fo))(h2:rb ε (.int k))(h3:rc ε .non):AY (λε b=>rO (fN true) ra rc ε (.bl b)) (λε b=>rO (RX false) rb ra ε (.bl b)) ε (jz fo k):=by
 cases fo with
 | none=>exact .f ⟨h1,h3,by exact⟨⟩⟩
 | some ks=>exact .t ⟨h1,h3,by exact⟨⟩⟩ ⟨h2,h1,kg⟩
noncomputable abbrev wZ:Stmt:=top 61
theorem Qh:ae ["field","mixing","plan","message","fallen","carries","number","mixed"] è (a8 wZ):=IM
theorem D3 (F:Iy K "flow" "flow" wZ f fd)(Jc:Df P w K mg base 3 "row_sum" ì (Pr (iD C)))(LB:Df P w K mg base 1 "coming_in" ø (Pr eD))(Ip:Df P w K mg base 1 "by_number" ["told"] (Pr cW)):HP P w K mg base Ik 4 f fd è (Pr (z6 C)):=by
 have ND:=Qh.nd;refine F.dv Qh ?_ λHU A outer s H E hr=>(qC (qO (pS 5 ND Z') λ_ _ _ h=>h)
 (qC (PR E1 rfl (ax<|Đ 1) (cr K rfl<|af (pN 6 ND) (af (pN 7 ND) aD)) (fY K [6,7])
  (q1 (qI (PW.pt<|Ag (dT gp qJ (Đ 4)<|dC b6) (gf<|TC (ao hr) (Đ 6) (Đ 4)))
  (q1<|qP (cA (ao hr) (pv 5) (Đ 6) (dC aa) rfl) (λ_ _ _ h=>h))
  (q1<|qP (cA (ao hr) (pv 5) (Đ 6) (dF Jc hr.m rfl<|da (Đ 0) (da (dS (ao hr) (Đ 2)<|Đ 6)<|da (dF LB hr.m rfl<|da (Đ 3) (da (Đ 7)<|da (Đ 5) HS)) HS)) rfl) (λ_ _ _ h=>h)))))
 (q1<|qR (dF Ip hr.m rfl<|da (Đ 5) HS))))
 rintro _ _ @⟨p,ms,ř,msg,fo,W⟩;have IX:=W.fits.IX;refine⟨rfl,.inl (.nx ⟨rfl⟩ ?_)⟩;refine eZ ms (λi ε=>∃ o6 o7,ε=[.fz<|fD C p,.fz<|iu ms,.fz<|bz ř,.fz<|rw msg,.fz<|Og fo,.ow<|Pa (ay p ř msg fo (ms.take i) []),o6,o7]) ⟨_,_,rfl⟩ ⟨rfl,.l .lst⟩ (λi m ε hm gR=>?_) λε gR=>?_
 ·obtain⟨o6,o7,he⟩:=gR;subst he;have nd:=W.fits.nd;have hk:=cP p ř msg fo (ms.take i) [];rw[be hm,jx];generalize ay p ř msg fo (ms.take i) []=cs at hk;have hl:cs.length<=1000:=by have:=congrArg List.length hk;simp at this;omega
  have nw:(.inl m.1:Key)∉(cs.map λx=>((.inl x.1:Key),D.int x.2)).map (·.1):=λz=>by obtain⟨x,h1,h2⟩:=DI.mp z;obtain⟨y,h3,rfl⟩:=DI.mp h1;have:=DI.mpr ⟨y,h3,Sum.inl.inj h2⟩;rw[hk,Fu,EW]at this;have nd:=(EF i ms)▸nd;rw[DP,Ej]at nd;exact nd.2.2 _ this _ (DI.mpr ⟨m,DO (i:=0) (by rw[Gs];exact hm),rfl⟩) rfl
  have tt:=Ac (ε:=[some<|fD C p,some<|iu ms,some<|bz ř,some<|rw msg,some<|Og fo,some<|Pa cs,some<|.int m.1,some<|Og m.2]) (ra:=rV 4) (rb:=rV 6) (rc:=rC .non) rfl rfl rfl;have e:∀ z,Pa (cs++[(m.1,z)])=Jq (sW (cs.map λx=>((.inl x.1:Key),D.int x.2)) (.inl m.1)<|.int z):=λz=>by rw[dY nw];exact congrArg Jq DP
  refine⟨_,⟨_,rfl,rfl,rfl⟩,?_⟩;unfold cq
  cases hf:jz fo m.1 with
  | true=>rw[hf]at tt;exact⟨_,.t tt ⟨rfl,by rw[DH];exact hl,.z rfl,rfl,kI⟩,.fz<|.int m.1,.fz<|Og m.2,by rw[if_pos rfl,e];rfl⟩
  | false=>
   rw[hf]at tt;obtain⟨r,h1,h2,h3⟩:=W.has m (DO hm) hf;have er:bD ř m.1=r.2:=by unfold bD;rw[h1];rfl
   rw[er];have ci:eD [rw msg,Og m.2,Pa cs] (rw (inc msg cs m.2)):=by
    cases hx:m.2 with
    | none=>exact .n
    | some ks=>exact .s (W.fits.ahead i m ks hm hx).1 λk LZ=>fU (by rw[hk];exact (W.fits.ahead i m ks hm hx).2 k LZ)
   exact⟨_,.f tt ⟨rfl,by rw[DH];exact hl,.a ⟨⟨rfl,⟨rfl,rfl,.k (gQ h1) kI⟩,⟨⟨rfl,rfl,rfl,rfl⟩,ci⟩,rfl⟩,⟨W.p0,W.p1,h3,h2⟩⟩ rfl,rfl,kI⟩,.fz<|.int m.1,.fz<|Og m.2,by rw[if_neg nofun,e];rfl⟩
 ·obtain⟨_,_,he⟩:=gR;rw[Et]at he;subst he;have hk:=cP p ř msg fo ms [];exact⟨⟨⟨rfl,rfl⟩,.mk (by have:=congrArg List.length hk;simp at this;omega) (by rw[hk];exact W.fits.nd)⟩,rfl⟩
end
structure Zl (K:Ψ) (mg:Ω) (C:Addr):Prop where
 cl:LF K C
 nP:IE K C "prime"
 g_G:∃ t,mg "GREATEST_PRIME"=some (.int 1000000 t)
section
variable {c:Cl}{C:Addr}
noncomputable abbrev wY:Stmt:=aF (top 36) 0
theorem CA:ae ù ù (a8 wY):=IM
inductive eJ (C:Addr) (vs:π) (H:Hp) (Q:VK) (E:XK):Prop
 |mk (x dx:Addr) (p:Int):vs=[.ref x,.int p]->H x=some (.ins C dx [])->p<=1000000->My.JK p=true->(∀ H',f' H H'->Q .non (upd H' x (.ins C dx [("prime",.int p)])))->eJ C vs H Q E
theorem D2 (F:Iy K "__init__" "Field.__init__" wY f fd)(T:Zl K mg C)(Mi:Df P w K mg base 1 "is_prime" û (Pr lF)):HP P w K mg base Ik 2 f fd ù (eJ C):=by
 obtain⟨tk,hgG⟩:=T.g_G;refine F.k CA λHU A _ s H vs Q E hr h=>?_
 ·obtain⟨x,dx,p,rfl,hx,hp,hP,q⟩:=h;refine⟨_,(aj (io (PW.pt<|U2 (pT qF (pv 1)<|gk (v:=.int 1000000) rfl hgG ⟨_,rfl⟩) (sV<|sX (cf<|b7 Mi hr.m rfl (a9 (pv 1) D'))))
  (ar JN)
  Jb)
 (ar<|gh (pv 0) (pv 1) rfl)),?_⟩
  refine⟨_,rfl,_,_,rfl,rfl,_,rfl,mH (λhc=>absurd (DZ hc)<|by omega) λhc=>?_⟩;refine⟨_,rfl,H,[.int p],.bl true,f'.refl _,⟨_,_,rfl,rfl,rfl⟩,⟨hP,hp⟩,λv H' e hv=>⟨true,hv,vM ?_⟩⟩;exact⟨_,rfl,_,rfl,x,C,dx,[],rfl,e _ _ hx,T.cl,T.nP,by decide,q H' e⟩
inductive Xw (C:Addr) (rs:Á) (ε:En) (d:D):Prop
 |mk {p:Int}:rs ε [.int p]->p<=1000000->My.JK p=true->d=fD C p->Xw C rs ε d
theorem BV (Dd:Dk X.prog X.w X.K X.mg X.base k x C ps (eJ C))(hr:IA (k+1) X.A)(hg:Gl X x)(ha:PA X (e::es) (KU rs))(Mb:autoParam (Ė x) ĩ)(he:autoParam (Ĕ X e es) ŕ)(L':autoParam (Ē X pos es) ŕ):
  PE X (.Call (.Name x p) (e::es) [] pos) (tP (Xw C rs)):=(ir Dd hr hg ha Mb he L').imp λσ H Q ⟨F,ε,d,S,⟨h1,h2,h3,h4⟩,q⟩=>KU.go S h1 λvs H1 e1 S1 gR x dx nx nd ne=>by
 obtain⟨v,ws,ev,hv,hw⟩:=gR;subst ev h4
 cases hv
 cases hw;refine .mk x dx _ rfl ag h2 h3 λH' e'=>⟨rfl,q _ _ (λa o z=>?_) ⟨x,dx,_,rfl,by rw[aw<|e1.free nx,ag],rfl,_,_,rfl,rfl,rfl⟩⟩
 have z1:=e1 _ _ z;have n1:=aq z1 nx;rw[ab n1];exact e' _ _ (by rw[ab n1,ab<|aq z1 nd];exact z1)
inductive wE (c:Cl) (ord:NS->Æ):Ä
 |mk {S:NS}{ns:η}{p:Int}{ř:List aU}{msg:Ξ}{fo:Λ}:ord S ns->(∀ x∈ns,x∈S.names)->S.HM.length<=1000->My.JK p=true->wI p (HR S ns) ř fo->wE c ord [aI c S,bz ř,rw msg,.int p,Og fo] (Pa (OL (·.1) (ay p ř msg fo (HR S ns) [])))
noncomputable abbrev wW:Stmt:=top 62
theorem Cy:ae æ æ (a8 wW):=IM
theorem D0 (F:JU K "sent" "sent" wW f fd)(IV:Dk P w K mg base 2 "Field" C ù (eJ C))(Ii:Df P w K mg base 3 "mixing_ties" ["net"] (Pr (iP c ord)))(Nf:Df P w K mg base 4 "flow" è (Pr (z6 C))):HP P w K mg base Ik 5 f fd æ (Pr (wE c ord)):=by
 refine JU.dv F Cy ?_ λHU A _ s H E hr=>(q1<|qR (dF Nf hr.m rfl<|da (BV IV hr.m rfl<|da (Đ 3) HS) (da (dF Ii hr.m rfl<|da (Đ 0) HS)<|da (Đ 1) (da (Đ 2)<|da (Đ 4) HS))))
 rintro _ _ @⟨S,ns,p,ř,msg,fo,ho,hn,hl,hP,W⟩;have IX:=W.fits.IX;exact⟨rfl,.inl ⟨⟨⟨⟨⟨rfl,rfl⟩,W.p1,hP,rfl⟩,⟨⟨rfl,rfl⟩,⟨ho,hn,hl,by omega⟩⟩,rfl,rfl,rfl,rfl⟩,⟨W⟩⟩,rfl⟩⟩
theorem yH:∀ {l:List α},(l.map f).Nodup->∀ {x y},x∈l->y∈l->f x=f y->x=y
 | a::l,nd,x,y,hx,hy,e=>by
  have nd:=Ex.mp nd;rcases E3.mp hx with h1|h1 <;> rcases E3.mp hy with h2|h2
  ·rw[h1,h2]
  ·exact absurd (DI.mpr ⟨y,h2,by rw[<- e,h1]⟩) nd.1
  ·exact absurd (DI.mpr ⟨x,h1,by rw[e,h2]⟩) nd.1
  ·exact yH nd.2 h1 h2 e
theorem zM (pm:cs.Perm l)(nd:(l.map (·.1)).Nodup)(h:aA l k=some n):aA cs k=some n:=by unfold aA at h ⊢;obtain⟨x,h1,h2⟩:=EG.mp h;have hm:=pm.mem_iff.mpr<|ED h1;have hx:=DZ<|Fy (p:=λx:Int×Int=>decide _) h1;obtain⟨y,hy⟩:=Fp.mp (GY (p:=λx:Int×Int=>decide (x.1=k)) |>.mpr ⟨x,hm,DM hx⟩);have ZV:=ED hy;have hy2:=DZ<|Fy (p:=λx:Int×Int=>decide (x.1=k)) hy;rw[hy];have:=yH ((pm.map _).nodup_iff.mpr nd) ZV hm<|hy2.trans hx.symm;rw[this];exact congrArg _ h2
noncomputable def bG (p:Int)(ř:List aU)(fo:Λ)(ms:List J1)(many:Nat)(k:Int):Ξ:=(List.range many).map λj=>(aA (ay p ř (Mx.HL many j) fo ms []) k).getD 0
inductive kH (c:Cl) (ord:NS->Æ):Ä
 |mk {S:NS}{ns:η}{p:Int}{ř:List aU}{many:Nat}{fo:Λ}:ord S ns->(∀ x∈ns,x∈S.names)->S.HM.length<=1000->My.JK p=true->wI p (HR S ns) ř fo->many<=1000->kH c ord [aI c S,bz ř,.int many,.int p,Og fo] (Jq ((OL (·.1) (HR S ns)).map λm=>(.inl m.1,rw (bG p ř fo (HR S ns) many m.1))))
noncomputable abbrev kY:Stmt:=top 63
theorem NW:ae ["net","plan","many","prime","fallen","field","mixing","flows"] Ý (a8 kY):=IM
theorem xp (F:JU K "carried" "carried" kY f fd)(T:Dx mg)(IV:Dk P w K mg base 2 "Field" C ù (eJ C))(Ii:Df P w K mg base 3 "mixing_ties" ["net"] (Pr (iP c ord)))(Nf:Df P w K mg base 4 "flow" è (Pr (z6 C)))(JF:Df P w K mg base 2 "ones" č (Pr sd))(KD:Df P w K mg base 1 "column" ć (Pr kF))(Ip:Df P w K mg base 1 "by_number" ["told"] (Pr cW)):HP P w K mg base Ik 5 f fd Ý (Pr (kH c ord)):=by
 have ND:=NW.nd;refine JU.dv F NW ?_ λHU A outer s H E hr=>(qC (qS (pS 5 ND<|BV IV hr.m rfl (da (Đ 3) HS)) λ_ _ _ h=>h)
 (qC (qS (pS 6 ND<|dF Ii hr.m rfl (da (Đ 0) HS)) λ_ _ _ h=>h)
 (qC (qS (pS 7 ND (Od 0 rfl (cS 1 [1,4,5,6] ["message","plan","fallen","field","mixing"]) (ax<|dF JF hr.m rfl (da (Đ 2) HS))
  (λ_ _ _ _ _=>pC 0)
  (λ_ _ _ _ _=>Lp)
  (λ_ _ _ _ _=>dF Nf hr.m rfl<|da (Đ 3) (da (Đ 4)<|da (Đ 1) (da (Đ 0)<|da (Đ 2) HS))))) λ_ _ _ h=>h)
 (q1 (qR (dF Ip hr.m rfl (da (Sv ky (eA rfl) rfl T.Ko boot_dict (da (Od 2 rfl (cS 2 [7] ["number","mixed","flows"]) (ax<|Đ 6)
  (λ_ _ _ _ _=>cr K rfl<|af (pC 0) (af (pC 1) aD))
  (λ_ _ _ _ _=>Lp)
  (λ_ _ _ _ _=>mM<|da (Đ 0) (da (dF KD hr.m rfl<|da (Đ 2) (da (Đ 0) HS)) HS))) HS)) HS)))))))
 rintro _ _ @⟨S,ns,p,ř,many,fo,ho,hn,hl,hP,W,hm⟩;have IX:=W.fits.IX;have nd:=W.fits.nd;refine⟨rfl,.inl<|.nx ⟨⟨⟨rfl,rfl⟩,W.p1,hP,rfl⟩⟩ (.nx ⟨⟨rfl,rfl⟩,⟨ho,hn,hl,by omega⟩⟩<|.nx ⟨aR (h:=λj=>Pa<|OL (·.1) (ay p ř (Mx.HL many j) fo (HR S ns) [])) ⟨⟨⟨rfl,rfl⟩,⟨hm⟩⟩,?_⟩ (by simpa using hm) λj _=>⟨_,rfl,⟨rfl,rfl,rfl,rfl,rfl,rfl⟩,⟨W⟩⟩⟩ ⟨⟨⟨⟨⟨aR (u:=zL) ⟨rfl,.l .lst⟩ (by omega) λm hm'=>⟨_,⟨rfl,rfl⟩,⟨rfl,⟨⟨rfl,rfl,rfl⟩,.d (by simpa using hm) λj _=>?_⟩,rfl⟩,by simp,rfl⟩,rfl⟩,Sw.m (f:=λm:J1=>(.inl m.1:Key)) (by omega) ?_⟩,rfl⟩,.mk IX nd⟩,rfl⟩)⟩
 ·unfold Mx.ones;rw[show tb _=.lst (List.map rw _) from rfl,DL];exact .l .lst
 ·have hk:=cP p ř (Mx.HL many j) fo (HR S ns) [];obtain⟨n,hn⟩:=fU (by rw[hk];exact DS hm');rw[hn];exact zM Jd (by rw[hk];exact nd) hn
 ·have:=tV nd (g:=λ_=>.non);rwa [DL]at this
end
structure Ch (mg:Ω):Prop where
 Ko:mg "dict"=none
 IH:mg "len"=none
 Ll:mg "list"=none
 XW:mg "min"=none
noncomputable def wide (many:Int):Option Ξ->Int
 | none=>many
 | some ks=>ks.length
noncomputable def bZ (ms:List J1)(ř:List aU):List aU:=(OL (·.1) ms).map λm=>(m.1,bD ř m.1)
structure Nr (many p:Int) (ms:List J1) (ř:List aU):Prop where
 row:∀ m∈ms,∃ r,jS ř m.1=some r/\(r.2.length:Int)=wide many m.2/\RY p r.2/\r.2.length<=1000
 odd:∀ r∈ř,r.1∈ms.map (·.1)
 IX:ř.length<=1000
theorem vT (nd:(ms.map (·.1)).Nodup)(h:m∈ms):jS (bZ ms ř) m.1=some (m.1,bD ř m.1):=by unfold bZ jS;have hm:=(Jd (f:=λm:J1=>m.1)).mem_iff.mpr h;obtain⟨y,hy⟩:=Fp.mp (GY (p:=λr:aU=>decide (r.1=m.1)) |>.mpr ⟨_,DS (f:=λm:J1=>(m.1,bD _ m.1)) hm,DM rfl⟩);rw[hy];obtain⟨z,hz,e⟩:=DI.mp<|ED hy;have h2:=DZ<|Fy (p:=λr:aU=>decide (r.1=m.1)) hy;rw[<- e,(congrArg _ e).trans h2]
section
variable {c:Cl}{ord:NS->Æ}
structure ya (ord:NS->Æ) (S:NS) (ns:η):Prop where
 ord:ord S ns
 SS:∀ x∈ns,x∈S.names
 tz:S.HM.length<=60
 fits:uw (HR S ns)
inductive ui (c:Cl) (ord:NS->Æ):Ä
 |mk {S:NS}{ns:η}{many:Int}:ya ord S ns->ui c ord [aI c S,.int many] (Jq ((OL (·.1) (HR S ns)).map λm=>(.inl m.1,.int (wide many m.2))))
noncomputable abbrev cK:Stmt:=top 56
theorem jO:ae ["net","many"] ["net","many"] (a8 cK):=IM
theorem jX (F:Iy K "wanted_lengths" "wanted_lengths" cK f fd)(T:Ch mg)(Ii:Df P w K mg base 3 "mixing_ties" ["net"] (Pr (iP c ord)))(Ip:Df P w K mg base 1 "by_number" ["told"] (Pr cW)):HP P w K mg base Ik 4 f fd ["net","many"] (Pr (ui c ord)):=by
 refine F.dv jO ?_ λHU A _ s H E hr=>(q1 (qR (dF Ip hr.m rfl (da (Sv ky (eA rfl) rfl T.Ko boot_dict (da (Od 2 rfl (cS 2 [1] ["number","mixed","many"]) (ax<|dF Ii hr.m rfl (da (Đ 0) HS))
  (λ_ _ _ _ _=>cr K rfl<|af (pC 0) (af (pC 1) aD))
  (λ_ _ _ _ _=>Lp)
  (λ_ _ _ _ _=>mM<|da (Đ 0) (da (Th (dT l9 qK (Đ 1)<|dC b6) (Đ 2)<|dB b5 aG rfl T.IH boot_len (da (Đ 1) HS)) HS))) HS)) HS))))
 rintro _ _ @⟨S,ns,many,N⟩;have IX:=N.fits.IX;have tz:=N.tz;refine⟨rfl,.inl ⟨⟨⟨⟨⟨aR ⟨⟨⟨rfl,rfl⟩,⟨N.ord,N.SS,by omega,by omega⟩⟩,.l .lst⟩ (by omega) λm _=>⟨_,⟨rfl,rfl⟩,⟨rfl,?_,rfl⟩,by simp,rfl⟩,rfl⟩,Sw.m (f:=λm:J1=>.inl m.1) (by omega) ?_⟩,rfl⟩,.mk IX N.fits.nd⟩,rfl⟩⟩
 ·cases hx:m.2 with
  | none=>exact .t ⟨rfl,rfl,by exact⟨⟩⟩ rfl
  | some ks=>exact .f ⟨rfl,rfl,by exact⟨⟩⟩ ⟨⟨rfl,rfl⟩,M0.m⟩
 ·have:=tV N.fits.nd (g:=λ_=>.non);rwa [DL]at this
inductive pJ (c:Cl) (ord:NS->Æ):Ä
 |mk {S:NS}{ns:η}{many p:Int}{ř:List aU}:ya ord S ns->My.JK p=true->p<=1000000->Nr many p (HR S ns) ř->pJ c ord [aI c S,bz ř,.int many,.int p] (bz (bZ (HR S ns) ř))
noncomputable abbrev dQ:Stmt:=top 59
theorem KZ:ae ["net","plan","many","prime","field","lengths","number","strange"] ă (a8 dQ):=IM
theorem mE (F:Iy K "checked_plan" "checked_plan" dQ f fd)(T:Ch mg)(IV:Dk P w K mg base 2 "Field" C ù (eJ C))(Jt:Df P w K mg base 4 "wanted_lengths" ["net","many"] (Pr (ui c ord)))(Lz:Df P w K mg base 3 "is_row_of" ÿ (Pr (KO C))):HP P w K mg base Ik 5 f fd ă (Pr (pJ c ord)):=by
 have ND:=KZ.nd;refine F.dv KZ ?_ λHU A outer s H E hr=>(qC (qS (pS 4 ND<|BV IV hr.m rfl (da (Đ 3) HS)) λ_ _ _ h=>h)
 (qC (qS (pS 5 ND<|dF Jt hr.m rfl (da (Đ 0)<|da (Đ 2) HS)) λ_ _ _ h=>h)
 (qC (PR E1 rfl (ax<|Đ 5) (pN 6 ND) (aN 6)
  (q1 (qI (PW.pt<|dOr (Ra (ao hr) (Đ 6)<|Đ 1) (sV<|Af (dV<|cf (dF Lz hr.m rfl<|da (Đ 4) (da (dS (ao hr) (Đ 1)<|Đ 6)<|da (dS (ao hr) (Đ 5)<|Đ 6) HS)))))
  (q1 qN)
  q0)))
 (qC (SM (n:=0) (aP (i:=7) ND rfl rfl rfl (cS 1 [5] ["number","lengths"]) (ax<|Đ 1)
  (λ_ _ _ _ _=>pC 0)
  (λ_ _ _ _ _=>c6<|Ra (ao hr) (Đ 0) (Đ 1))
  (λ_ _ _ _ _=>Đ 0)) rfl)
 (qC (qI (dT qF gr (dB b5 aG rfl T.IH boot_len<|da (Đ 7) HS)<|dC aa)
  (q1 qN)
  q0)
 (q1 (qR (Sv ky (eA rfl) rfl T.Ko boot_dict (da (Od 0 rfl (cS 1 [1] ["number","plan"]) (ax<|Đ 5)
  (λ_ _ _ _ _=>pC 0)
  (λ_ _ _ _ _=>Lp)
  (λ_ _ _ _ _=>mM<|da (Đ 0) (da (Sv fW (cU rfl) rfl T.Ll boot_list<|da (dS (ao hr) (Đ 1)<|Đ 0) HS) HS))) HS)))))))))
 rintro _ _ @⟨S,ns,many,p,ř,N,hP,hp,G⟩;have IX:=N.fits.IX;have pm:=Jd (f:=λm:J1=>m.1) (l:=HR S ns);refine⟨rfl,.inl<|.nx ⟨⟨⟨rfl,rfl⟩,hp,hP,rfl⟩⟩ (.nx ⟨⟨rfl,rfl,rfl⟩,⟨N⟩⟩ ?_)⟩;unfold bZ;generalize hg:OL (λm:J1=>m.1) (HR S ns)=gs at pm;have gl:=pm.length_eq;have gd:(gs.map (·.1)).Nodup:=(pm.map _).nodup_iff.mpr N.fits.nd;refine eZ gs (λ_ ε=>∃ o6 o7,ε=[.fz<|aI c S,.fz<|bz ř,.fz<|.int many,.fz<|.int p,.fz<|fD C p,.fz<|Jq (gs.map λm=>(.inl m.1,.int<|wide many m.2)),o6,o7]) ⟨_,_,rfl⟩ ⟨rfl,Itm.m⟩ (λi m ε hm gR=>?_) λε gR=>?_
 ·obtain⟨o6,o7,he⟩:=gR;subst he;have hm:=DO hm;obtain⟨r,h1,h2,h3,h4⟩:=G.row m<|pm.mem_iff.mp hm;have rr:=KO.mk (C:=C) h4 h3;rw[h2]at rr;exact⟨_,rfl,_,.f (.f ⟨rfl,rfl,.k rfl kI (by rw[gQ h1];rfl)⟩ ⟨⟨rfl,⟨rfl,rfl,.k (gQ h1) kI⟩,⟨rfl,rfl,.k (fO (tV gd)<|DS hm) kI⟩,rfl⟩,rr⟩) rfl,_,_,rfl⟩
 ·obtain⟨o6,o7,he⟩:=gR;subst he;have es:ř.filter (λr=>!decide (r.1∈gs.map (·.1)))=[]:=ET.mpr λr hr=>by rw[DM<|(pm.map _).mem_iff.mpr (G.odd r hr)];exact nofun
  refine .nx ⟨bh (xs:=ř) (u:=λr=>.int r.1) (h:=λr=>.int r.1) (λr=>!decide (r.1∈gs.map (·.1))) ⟨rfl,Itm.m⟩ G.IX λr hr=>⟨_,rfl,⟨rfl,rfl,.k rfl kI (by rw[VT (f:=λm:J1=>m.1)];rfl)⟩,λ_=>rfl⟩⟩ ?_;rw[es];refine .nx (.f (gt_int (i:=0) (j:=0) ⟨⟨rfl,rfl⟩,.s<|.sq .lst⟩ rfl) rfl) ⟨⟨⟨aR (xs:=gs) (u:=λm=>.int m.1) (h:=λm=>.tup [.int m.1,rw (bD ř m.1)]) ⟨rfl,Itm.m⟩ (by omega) λm hm=>⟨_,rfl,⟨⟨rfl,⟨⟨⟨rfl,rfl,?_⟩,rfl⟩,.s<|.sq .lst⟩,rfl⟩,by simp,rfl⟩⟩,rfl⟩,Sw.m (f:=λm:J1=>(.inl m.1:Key)) (by omega) ?_⟩,?_⟩
  ·obtain⟨r,h1,_⟩:=G.row m<|pm.mem_iff.mp hm;have er:bD ř m.1=r.2:=by unfold bD;rw[h1];rfl
   rw[er];exact .k (gQ h1) kI
  ·have:=tV (f:=λm:J1=>m.1) gd (g:=λ_=>.non);rwa [DL]at this
  ·rw[show bz (gs.map _)=Jq (List.map _<|List.map _ gs) from rfl,DL];rfl
end
theorem Ak (hp:0<p)(ř:List aU)(msg:Ξ)(fo:Λ)(cs:Cs)(m:J1):0<=cq p ř msg fo cs m/\cq p ř msg fo cs m<p:=by
 unfold cq;by_cases c:jz fo m.1=true
 ·rw[if_pos c];omega
 ·rw[if_neg c,Mx.Iv];exact⟨EM _<|by omega,EC _ hp⟩
theorem vX (hp:0<p)(ř:List aU)(msg:Ξ)(fo:Λ):∀ (ms:List J1)(cs:Cs),(∀ x∈cs,0<=x.2/\x.2<p)->∀ x∈ay p ř msg fo ms cs,0<=x.2/\x.2<p
 | [],_,h=>h
 | m::ms,cs,h=>vX hp ř msg fo ms _ λx hx=>by
  rcases Ea.mp hx with z|z
  ·exact h x z
  ·rw[E5.mp z];exact Ak hp ř msg fo cs m
theorem rW (hp:0<p)(ř:List aU)(fo:Λ)(ms:List J1)(many:Nat)(k:Int):RY p (bG p ř fo ms many k):=λz hz=>by
 obtain⟨j,_,rfl⟩:=DI.mp hz
 cases hl:aA _ k with
 | none=>exact⟨Int.le_refl _,hp⟩
 | some n=>
  obtain⟨x,hx,e⟩:=EG.mp hl;have:=vX hp _ _ fo ms [] (λ_ h=>(EJ h).elim) x<|ED hx;rw[<- e];exact this
noncomputable def dE (S:NS)(p:Int)(rs:List aU)(fo:Λ)(ms:List J1)(many:Nat)(g:Str):Θ:=(S.into g).map λk=>bG p rs fo ms many k
theorem sk (hp:0<p)(h1:(S.into g).length<=100)(h2:many<=100):Tr p many (dE S p rs fo ms many g):=by
 refine⟨⟨λr hr=>?_,λr hr=>?_⟩,by unfold dE;rw[DH];exact h1,by omega⟩
 ·obtain⟨k,_,rfl⟩:=DI.mp hr;unfold bG;rw[DH,Er]
 ·obtain⟨k,_,rfl⟩:=DI.mp hr;exact rW hp rs fo ms _ k
section
variable {c:Cl}{ord:NS->Æ}
theorem Nr.YQ (N:ya ord S ns)(hP:My.JK p=true)(hp:p<=1000000)(G:Nr many p (HR S ns) ř):wI p (HR S ns) (bZ (HR S ns) ř) fo:=by have h2:=((My.HY p).mp hP).1;refine⟨by omega,hp,N.fits,λm hm _=>⟨_,vT N.fits.nd hm,?_⟩⟩;obtain⟨r,h1,_,h3,h4⟩:=G.row m hm;rw[show bD _ m.1=r.2 by unfold bD;rw[h1];rfl];exact⟨h3,h4⟩
inductive dq (c:Cl) (ord:NS->Æ):Ä
 |mk {S:NS}{ns:η}{many:Nat}{p:Int}{ř:List aU}{fo:Λ}:ya ord S ns->My.JK p=true->p<=1000000->Nr many p (HR S ns) ř->many<=100->S.Ia.length<=100->S.names.Nodup->(∀ t∈S.HM,t.1∈(HR S ns).map (·.1))->dq c ord [aI c S,bz ř,.int many,.int p,Og fo] (Jq (S.J8.map λg=>(.inr g,gy p (dE S p (bZ (HR S ns) ř) fo (HR S ns) many g) many)))
noncomputable abbrev nK:Stmt:=top 66
theorem Ox:ae ["net","plan","many","prime","fallen","looked_over","field","rows","told","listener","table"] Ý (a8 nK):=IM
theorem qG (F:JU K "judged" "judged" nK f fd)(Jn:Df P w K mg base 5 "checked_plan" ă (Pr (pJ c ord)))(IV:Dk P w K mg base 2 "Field" C ù (eJ C))(LQ:Df P w K mg base 5 "carried" Ý (Pr (kH c ord)))(HN:Dm P w K mg base 2 c.IU "listeners" Þ (Pr (bB c)))(IS:Dm P w K mg base 2 c.IU "into" Ü (Pr (pF c NS.into)))(Km:Df P w K mg base 7 "judgement" á (Pr (jF C))):HP P w K mg base Ik 8 f fd Ý (Pr (dq c ord)):=by
 have ND:=Ox.nd;refine JU.dv F Ox ?_ λHU A outer s H E hr=>(qC (qS (pS 5 ND<|dF Jn hr.m rfl (da (Đ 0)<|da (Đ 1) (da (Đ 2)<|da (Đ 3) HS))) λ_ _ _ h=>h)
 (qC (qS (pS 6 ND<|BV IV hr.m rfl (da (Đ 3) HS)) λ_ _ _ h=>h)
 (qC (qS (pS 7 ND<|dF LQ hr.m rfl (da (Đ 0)<|da (Đ 5) (da (Đ 2)<|da (Đ 3) (da (Đ 4) HS)))) λ_ _ _ h=>h)
 (qC (qO (pS 8 ND Z') λ_ _ _ h=>h)
 (qC (PR E1 rfl (ax<|gO (Đ 0) HN hr.m) (pN 9 ND) (aN 9)
  (qC (SM (n:=0) (aP (i:=10) ND rfl rfl rfl (cS 1 [7] ["number","rows"]) (ax<|Nq (Đ 0) IS hr.m (da (Đ 9) HS))
  (λ_ _ _ _ _=>pC 0)
  (λ_ _ _ _ _=>Lp)
  (λ_ _ _ _ _=>dS (ao hr) (Đ 1)<|Đ 0)) rfl)
 (q1<|qP (cA (ao hr) (pv 8) (Đ 9) (dF Km hr.m rfl<|da (Đ 6) (da (Đ 10)<|da (Đ 2) HS)) rfl) (λ_ _ _ h=>h))))
 (q1<|qR (Đ 8)))))))
 rintro _ _ @⟨S,ns,many,p,ř,fo,N,hP,hp,G,hm,hz,nd,hk⟩;have h2:=((My.HY p).mp hP).1;have IX:=N.fits.IX;have tz:=N.tz;have pm:=Jd (f:=λm:J1=>m.1) (l:=HR S ns);have li:∀ g∈S.J8,g∈S.names:=λg hg=>by obtain⟨q,h1,h2⟩:=DI.mp hg;exact DI.mpr ⟨q,(DY.mp h1).1,h2⟩
 have ln:S.J8.Nodup:=List.Nodup.sublist (Hd _ Gh) nd;have lz:S.J8.length<=100:=by unfold NS.J8;rw[DH];exact Ei (Eh _ _) hz
 have iz:∀ g,(S.into g).length<=S.HM.length:=λg=>by unfold NS.into;rw[DH];exact Eh _ _
 refine⟨rfl,.inl<|.nx ⟨⟨rfl,rfl,rfl,rfl,rfl⟩,⟨N,hP,hp,G⟩⟩ (.nx ⟨⟨⟨rfl,rfl⟩,hp,hP,rfl⟩⟩<|.nx ⟨⟨rfl,rfl,rfl,rfl,rfl,rfl⟩,⟨N.ord,N.SS,by omega,hP,G.YQ N hP hp,by omega⟩⟩ (.nx ⟨rfl⟩ ?_))⟩;generalize bZ (HR S ns) ř=rs;refine eZ S.J8 (λi ε=>∃ o9 ME,ε=[.fz<|aI c S,.fz<|bz ř,.fz<|.int many,.fz<|.int p,.fz<|Og fo,.fz<|bz rs,.fz<|fD C p,.fz<|Jq ((OL (·.1)<|HR S ns).map λm=>(.inl m.1,rw (bG p rs fo (HR S ns) many m.1))),.ow<|Jq ((S.J8.take i).map λg=>(.inr g,gy p (dE S p rs fo (HR S ns) many g) many)),o9,ME]) ⟨_,_,rfl⟩ ⟨⟨rfl,rfl,by decide,⟨by omega⟩⟩,.l .lst⟩ (λi g ε hg gR=>?_) λε gR=>?_
 ·obtain⟨o9,ME,he⟩:=gR;subst he;have gm:=DO hg;have lt:=(DJ.mp hg).1;have gz:(S.into g).length<=100:=by have:=iz g;omega
  have nw:(.inr g:Key)∉((S.J8.take i).map λg=>((.inr g:Key),gy p (dE S p rs fo (HR S ns) many g) many)).map (·.1):=λz=>by rw[DL]at z;obtain⟨x,h1,h2⟩:=DI.mp z;have h1:=Sum.inr.inj h2▸h1;have nd:=(EF i S.J8)▸ln;rw[Ej]at nd;exact nd.2.2 _ h1 _ (DO (i:=0) (by rw[Gs];exact hg)) rfl
  refine⟨_,rfl,_,.nx ⟨dj (h:=λk=>rw (bG p rs fo (HR S ns) many k)) ⟨⟨rfl,by decide,⟨rfl,rfl⟩,⟨by omega,li g gm⟩⟩,.l .lst⟩ (by omega) (λk LZ=>⟨_,rfl,rfl,rfl,.k ?_ kI⟩) (by unfold dE;rw[show tb _=.lst (List.map rw _) from rfl,DL];rfl)⟩ ⟨rfl,by simp;omega,.z ⟨⟨rfl,rfl,rfl,rfl⟩,⟨hP,hp,sk (by omega) gz hm,hm⟩⟩,rfl,kS⟩,.fz<|.str g,.fz<|tb (dE S p rs fo (HR S ns) many g),?_⟩
  ·obtain⟨t,h1,rfl⟩:=DI.mp LZ;obtain⟨m,h3,h4⟩:=DI.mp<|hk t (DY.mp h1).1;rw[<- h4];exact fO (tV<|(pm.map _).nodup_iff.mpr N.fits.nd) (DS<|pm.mem_iff.mpr h3)
  ·rw[dY nw,be hg,DP];rfl
 ·obtain⟨_,_,he⟩:=gR;rw[Et]at he;subst he;exact⟨rfl,rfl⟩
end
end K92
namespace L2.Wy
variable {ν:Type}[DecidableEq ν]
abbrev T (ν:Type):=Int×ν×ν×Int
noncomputable def b2 (b:Bool):Int:=if b then 1 else 0
noncomputable def j4 (U:Int->Bool)(p:ν->Bool)(t:T ν):Int:=if U t.1 then b2 (p t.2.1) - b2 (p t.2.2.1) else 0
noncomputable def IU (ts:List (T ν))(U:Int->Bool)(p:ν->Bool):Int:=(ts.map (j4 U p)).sum
noncomputable def M3 (t:T ν)(x:ν)(U:Int->Bool):Option ν:=if U t.1 then (if t.2.2.1=x then some t.2.1 else none) else (if t.2.1=x then some t.2.2.1 else none)
noncomputable def qd (U:Int->Bool)(k:Int):Int->Bool:=λj=>if j=k then !U j else U j
theorem rH (U:Int->Bool)(k:Int):qd U k k=!U k:=if_pos rfl
theorem mZ (U:Int->Bool)(h:j≠k):qd U k j=U j:=if_neg h
theorem ka (t:T ν)(ts:List (T ν))(U:Int->Bool)(p:ν->Bool):IU (t::ts) U p=j4 U p t+IU ts U p:=by unfold IU;rw[DX,List.sum_cons]
theorem lj {ts:List (T ν)}{V:Int->Bool}(p:ν->Bool)(h:∀ t∈ts,U t.1=V t.1):IU ts U p=IU ts V p:=by unfold IU;congr 1;refine E9 λt ht=>?_;unfold j4;rw[h t ht]
def Nums (ts:List (T ν)):Prop:=(ts.map (·.1)).Nodup
theorem Nums.tail (h:Nums (t::ts)):Nums ts:=(Ex.mp h).2
theorem Nums.ne (h:Nums (t::ts))(hu:u∈ts):u.1≠t.1:=λe=>(Ex.mp h).1 (by show t.1∈ts.map _;rw[<- e];exact DS hu)
theorem Nums.inj (h:Nums ts){u:T ν}(ht:t∈ts)(hu:u∈ts)(e:t.1=u.1):t=u:=by
 induction ts with
 | nil=>cases ht
 | cons a ts ih=>
  rcases E3.mp ht with rfl|Ye
  ·rcases E3.mp hu with rfl|hu
   ·rfl
   ·exact absurd e.symm (h.ne hu)
  ·rcases E3.mp hu with rfl|hu
   ·exact absurd e (h.ne<|by assumption)
   ·exact ih h.tail (by assumption) hu
theorem zh {p:ν->Bool}{t:T ν}{x y:ν}(h:M3 t x U=some y):j4 (qd U t.1) p t=j4 U p t+b2 (p x) - b2 (p y):=by
 unfold M3 at h;unfold j4;rw[rH]
 cases hU:U t.1 with
 | true=>
  rw[hU]at h;rw[if_pos rfl]at h;split at h
  ·rename_i e
   cases h;subst e;simp
  ·cases h
 | false=>
  rw[hU]at h;rw[if_neg<|by decide]at h;split at h
  ·rename_i e
   cases h;subst e;simp
  ·cases h
theorem vA {ts:List (T ν)}{p:ν->Bool}{t:T ν}{x y:ν}(nd:Nums ts)(ht:t∈ts)(h:M3 t x U=some y):IU ts (qd U t.1) p=IU ts U p+b2 (p x) - b2 (p y):=by
 induction ts with
 | nil=>cases ht
 | cons a ts ih=>
  rw[ka,ka];rcases E3.mp ht with rfl|ht
  ·rw[zh h,lj p λu hu=>mZ U<|nd.ne hu];omega
  ·rw[ih nd.tail ht];have:j4 (qd U t.1) p a=j4 U p a:=by unfold j4;rw[mZ U λe=>nd.ne ht e.symm]
   omega
def Flow (ts:List (T ν))(U:Int->Bool)(h g:ν)(v:Int):Prop:=∀ p:ν->Bool,IU ts U p=v * (b2 (p h) - b2 (p g))
theorem Flow.none (ts:List (T ν))(h g:ν):Flow ts (λ_=>false) h g 0:=λp=>by
 rw[Hx];unfold IU
 induction ts with
 | nil=>rfl
 | cons t ts ih=>
  rw[DX,List.sum_cons,ih];rfl
abbrev Cm (ν:Type):=List (ν×Option (Int×ν))
noncomputable def keys (c:Cm ν):List ν:=c.map (·.1)
inductive JZ (ts:List (T ν)) (U:Int->Bool) (h:ν):Cm ν->Prop
 |one:JZ ts U h [(h,none)]
 |snoc {cs:Cm ν}{x y:ν}{t:T ν}:JZ ts U h cs->x∈keys cs->t∈ts->M3 t x U=some y->¬ y∈keys cs->JZ ts U h (cs++[(y,some (t.1,x))])
theorem aY (a b:Cm ν):keys (a++b)=keys a++keys b:=DP
theorem JZ.nd {ts:List (T ν)}{h:ν}{cs:Cm ν}(C:JZ ts U h cs):(keys cs).Nodup:=by
 induction C with
 | one=>simp[keys]
 | snoc C hx ht hs hy ih=>
  rw[aY];refine Ej.mpr ⟨ih,by simp[keys],λa ha b hb e=>?_⟩;have:=E5.mp hb;subst this;subst e;exact hy ha
theorem JZ.Ji {ts:List (T ν)}{h:ν}{cs:Cm ν}(C:JZ ts U h cs):h∈keys cs:=by
 induction C with
 | one=>simp[keys]
 | snoc C hx ht hs hy ih=>rw[aY];exact Ew _ ih
theorem JZ.at {ts:List (T ν)}{h:ν}{cs:Cm ν}(C:JZ ts U h cs){pre post:Cm ν}{y:ν}{s:Option (Int×ν)}(e:cs=pre++(y,s)::post):
  (s=none/\y=h)\/∃ t x,t∈ts/\s=some (t.1,x)/\x∈keys pre/\M3 t x U=some y:=by
 induction C generalizing post with
 | one=>
  cases pre with
  | nil=>
   injection e with e1 e2;injection e1 with e1 e3;exact .inl ⟨e3.symm,e1.symm⟩
  | cons a pre=>
   injection e with e1 e2;exact absurd e2 (by simp)
 | @snoc cs x y' t C hx ht hs hy ih=>
  rcases List.eq_nil_or_concat post with rfl|⟨Rz,q,rfl⟩
  ·have e':=e;obtain⟨e1,e2⟩:=Hc e' rfl;injection e2 with e2;injection e2 with e3 e4;subst e1 e3 e4;exact .inr ⟨t,x,ht,rfl,hx,hs⟩
  ·have e':cs++[(y',some (t.1,x))]=(pre++(y,s)::Rz)++[q]:=by rw[e];simp
   obtain⟨e1,e2⟩:=Hc e' rfl;exact ih e1
theorem Cv {t:T ν}{x x' y y':ν}(h:M3 t x U=some y)(h':M3 t x' U=some y'):y=y':=by
 unfold M3 at h h';split at h
 ·rename_i hU;rw[if_pos hU]at h';split at h
  ·split at h'
   ·cases h;cases h';rfl
   ·cases h'
  ·cases h
 ·rename_i hU;rw[if_neg hU]at h';split at h
  ·split at h'
   ·cases h;cases h';rfl
   ·cases h'
  ·cases h
theorem zj {t:T ν}{V:Int->Bool}(x:ν)(h:U t.1=V t.1):M3 t x U=M3 t x V:=by unfold M3;rw[h]
theorem iJ (h:y∈keys c):∃ pre s post,c=pre++(y,s)::post:=by obtain⟨⟨y',s⟩,hq,rfl⟩:=DI.mp h;obtain⟨pre,post,e⟩:=List.append_of_mem hq;exact⟨pre,s,post,e⟩
structure Back (ts:List (T ν)) (U:Int->Bool) (g:ν) (c:Cm ν) (V:Int->Bool) (y:ν) (s:Option (Int×ν)) (n:Nat):Prop where
 at':∃ pre post,c=pre++(y,s)::post/\pre.length=n/\∀ q∈pre++[(y,s)],∀ k x,q.2=some (k,x)->V k=U k
 nt:∀ p,IU ts V p=IU ts U p+b2 (p y) - b2 (p g)
theorem Back.start (e:c=pre++(g,s)::post):Back ts U g c U g s pre.length:=
 ⟨⟨pre,post,e,rfl,λ_ _ _ _ _=>rfl⟩,λp=>by omega⟩
theorem Back.step {ts:List (T ν)}{V:Int->Bool}{h g:ν}{c:Cm ν}(nd:Nums ts)(C:JZ ts U h c){y x:ν}(B:Back ts U g c V y (some (k,x)) n):
  ∃ s m,m<n/\Back ts U g c (qd V k) x s m:=by
 obtain⟨pre,post,e,hn,hV⟩:=B.at';rcases C.at e with⟨e0,_⟩|⟨t,x',ht,es,hx,hs⟩
 ·cases e0
 injection es with es;injection es with e1 e2;subst e1 e2;have hVt:=hV _ (Ec _<|E5.mpr rfl) _ _ rfl;obtain⟨V0,s,Rz,e3⟩:=iJ hx;have Kb:V0.length<n:=by rw[<- hn,e3,DT,Eu];omega
 refine⟨s,V0.length,Kb,⟨⟨V0,Rz++(y,some (t.1,x))::post,by rw[e,e3];simp,rfl,λq hq k' x'' Yk=>?_⟩,λp=>?_⟩⟩
 ·have hqp:q∈pre:=by
   rw[e3];rcases Ea.mp hq with hq|hq
   ·exact Ew _ hq
   ·rw[E5.mp hq];exact Ec _ (E7 ..)
  have Qt:k'≠t.1:=λek=>by
   obtain⟨a,b,WT⟩:=List.append_of_mem hqp;have e5:c=a++(q.1,q.2)::(b++(y,some (t.1,x))::post):=by rw[e,WT];simp
   rcases C.at e5 with⟨e0,_⟩|⟨t2,x2,ht2,es2,_,OR⟩
   ·rw[Yk]at e0;cases e0
   ·rw[Yk]at es2;injection es2 with es2;injection es2 with e6 e7;have:=nd.inj ht2 ht<|e6.symm.trans ek;subst this;have:=Cv OR hs;have hk:=C.nd;rw[e,aY]at hk;have h1:q.1∈keys pre:=DS hqp;exact (Ej.mp hk).2.2 q.1 h1 y (by simp[keys]) this
  rw[mZ V Qt];exact hV q (Ew _ hqp) k' x'' Yk
 ·rw[vA nd ht<|(zj x hVt).trans hs,B.nt p];omega
theorem Back.stop {ts:List (T ν)}{V:Int->Bool}{h g:ν}{c:Cm ν}(C:JZ ts U h c){y:ν}(B:Back ts U g c V y none n)(F:Flow ts U h g v):Flow ts V h g (v+1):=by
 obtain⟨pre,post,e,hn,hV⟩:=B.at';rcases C.at e with⟨_,rfl⟩|⟨t,x',ht,es,hx,hs⟩
 ·intro p;rw[B.nt p,F p,Int.add_mul];omega
 ·cases es
def ux (ts:List (T ν))(U:Int->Bool)(p:ν->Bool):Prop:=∀ t∈ts,∀ x z,p x=true->M3 t x U=some z->p z=true
noncomputable def xU (p:ν->Bool)(t:T ν):Bool:=p t.2.1&&!p t.2.2.1
noncomputable def rS (ts:List (T ν))(p:ν->Bool):List (T ν):=ts.filter (xU p)
theorem wu {p:ν->Bool}{t:T ν}(h:∀ x z,p x=true->M3 t x U=some z->p z=true):j4 U p t=b2 (xU p t):=by
 unfold j4 xU b2
 cases hU:U t.1 with
 | true=>
  have:=h t.2.2.1 t.2.1;unfold M3 at this
  cases h1:p _ <;> cases h2:p _ <;> simp_all
 | false=>
  have:=h t.2.1 t.2.2.1;unfold M3 at this;rw[hU,if_neg<|by decide]at this
  cases h1:p t.2.1 <;> cases h2:p t.2.2.1 <;> simp_all
theorem xv {ts:List (T ν)}{p:ν->Bool}(h:ux ts U p):IU ts U p=((rS ts p).length:Int):=by
 unfold rS
 induction ts with
 | nil=>rfl
 | cons t ts ih=>
  rw[ka,EZ,ih λu hu=>h u<|E6 _ hu,wu<|h t (E7 ..)]
  cases xU p t with
  | true=>
   rw[if_pos rfl,Eu];have h1:b2 true=1:=rfl;omega
  | false=>
   rw[if_neg<|by decide];have h1:b2 false=0:=rfl;omega
theorem Flow.cut {ts:List (T ν)}{h g:ν}{p:ν->Bool}(F:Flow ts U h g v)(hc:ux ts U p)(hh:p h=true)(hg:p g=false):((rS ts p).length:Int)=v:=by have:=F p;rw[xv hc,hh,hg]at this;rw[this];show v * (1 - 0)=v;omega
inductive Mc (ts:List (T ν)):ν->List (T ν)->ν->Prop
 |nil (x:ν):Mc ts x [] x
 |snoc {x:ν}{ws:List (T ν)}{t:T ν}:Mc ts x ws t.2.1->t∈ts->Mc ts x (ws++[t]) t.2.2.1
noncomputable def aS (ws:List (T ν)):Ξ:=ws.map (·.1)
theorem Mc.sub (W:Mc ts x ws y):∀ t∈ws,t∈ts:=by
 induction W with
 | nil=>exact λt ht=>nomatch ht
 | snoc W ht ih=>
  intro t h;rcases Ea.mp h with h|h
  ·exact ih t h
  ·rw[E5.mp h];exact ht
theorem Mc.up {ts:List (T ν)}{rk:ν->Nat}(hr:∀ t∈ts,rk t.2.1<rk t.2.2.1){x y:ν}{ws:List (T ν)}(W:Mc ts x ws y):rk x+ws.length<=rk y/\(∀ t∈ws,rk t.2.1<rk y)/\ws.Nodup:=by
 induction W with
 | nil=>exact⟨DV _,(λt ht=>nomatch ht),Ft⟩
 | @snoc ws t W ht ih=>
  have:=hr _ ht;obtain⟨i1,i2,i3⟩:=ih;refine⟨by rw[DT,EI];omega,λu hu=>?_,?_⟩
  ·rcases Ea.mp hu with hu|hu
   ·have:=i2 u hu;omega
   ·rw[E5.mp hu];exact this
  ·refine Ej.mpr ⟨i3,by simp,λa ha b hb e=>?_⟩;have eb:=E5.mp hb;subst eb;subst e;have:=i2 a ha;omega
theorem oC {ws:List (T ν)}(nd:Nums ts)(hs:∀ t∈ws,t∈ts)(h:ws.Nodup):(aS ws).Nodup:=by
 induction ws with
 | nil=>exact Ft
 | cons a ws ih=>
  obtain⟨h1,h2⟩:=Ex.mp h;refine Ex.mpr ⟨λz=>?_,ih (λt ht=>hs t<|E6 _ ht) h2⟩;obtain⟨u,hu,e⟩:=DI.mp z;have:=nd.inj (hs u<|E6 _ hu) (hs a<|E7 ..) e;exact h1 (this▸hu)
noncomputable def without (U:Int->Bool)(ks:Ξ):Int->Bool:=λk=>U k&&!decide (k∈ks)
theorem vz (nd:Nums ts)(p:ν->Bool)(W:Mc (ts.filter λt=>U t.1) x ws y)(hn:(aS ws).Nodup):
  IU ts (without U (aS ws)) p=IU ts U p - b2 (p x)+b2 (p y):=by
 induction W with
 | nil=>
  rw[lj (V:=U) p λt _=>by simp[without,aS]];omega
 | @snoc ws t W ht ih=>
  have WD:(aS ws++[t.1]).Nodup:=by have:aS (ws++[t])=aS ws++[t.1]:=DP;rw[this]at hn;exact hn
  obtain⟨n1,_,n3⟩:=Ej.mp WD;have Ka:=λz=>n3 t.1 z t.1 (E5.mpr rfl) rfl;have T1:=(DY.mp ht).1;have hU:=(DY.mp ht).2;have hV:without U (aS ws) t.1=true:=by unfold without;rw[hU,DQ Ka];rfl
  have hs:M3 t t.2.2.1 (without U<|aS ws)=some t.2.1:=by unfold M3;rw[hV,if_pos rfl,if_pos rfl]
  have e:IU ts (without U<|aS (ws++[t])) p=IU ts (qd (without U<|aS ws) t.1) p:=lj p λu _=>by
   have e2:aS (ws++[t])=aS ws++[t.1]:=DP;by_cases hu:u.1=t.1
   ·rw[hu,rH,hV];unfold without;rw[e2];simp
   ·rw[mZ _ hu];unfold without;rw[e2];simp[hu]
  rw[e,vA nd T1 hs,ih n1];omega
theorem Flow.without (nd:Nums ts)(F:Flow ts U h g v){ws:List (T ν)}(W:Mc (ts.filter λt=>U t.1) h ws g)(hn:(aS ws).Nodup):Flow ts (Wy.without U (aS ws)) h g (v - 1):=λp=>by rw[vz nd p W hn,F p,Hm];omega
theorem Be {ts:List (T ν)}{x:ν}(h:0<=IU ts U (λz=>decide (z=x)))(hi:0<IU ts U (λz=>decide (z=x))\/∃ t∈ts,U t.1=true/\t.2.2.1=x/\t.2.1≠x):∃ t∈ts,U t.1=true/\t.2.1=x:=by
 by_cases hx:∃ t∈ts,U t.1=true/\t.2.1=x
 ·exact hx
 ·exfalso;have key:∀ ts:List (T ν),(∀ t∈ts,¬ (U t.1=true/\t.2.1=x))->IU ts U (λz=>decide (z=x))<=0/\((∃ t∈ts,U t.1=true/\t.2.2.1=x/\t.2.1≠x)->IU ts U (λz=>decide (z=x))<0):=by
   intro ts T1
   induction ts with
   | nil=>exact⟨Int.le_refl _,λgR=>(by obtain⟨t,ht,_⟩:=gR;exact nomatch ht)⟩
   | cons a ts ih=>
    obtain⟨i1,i2⟩:=ih λt ht=>T1 t<|E6 _ ht;have ha:=T1 a<|E7 ..;rw[ka];have t0:j4 U (λz=>decide (z=x)) a<=0:=by
     unfold j4;split
     ·rename_i hU;show b2 (decide _) - b2 (decide _)<=0;rw[DQ λe=>ha ⟨hU,e⟩]
      cases decide (a.2.2.1=x) <;> decide
     ·exact Int.le_refl _
    refine⟨by omega,λgR=>?_⟩;obtain⟨t,ht,h1,h2,h3⟩:=gR;rcases E3.mp ht with rfl|ht
    ·have:j4 U (λz=>decide (z=x)) t=-1:=by unfold j4;rw[if_pos h1];show b2 (decide _) - b2 (decide _)=-1;rw[DQ h3,DM h2];rfl
     omega
    ·have:=i2 ⟨t,ht,h1,h2,h3⟩;omega
  obtain⟨k1,k2⟩:=key ts λt ht z=>hx ⟨t,ht,z⟩;rcases hi with hi|hi
  ·omega
  ·have:=k2 hi;omega
theorem Flow.Ta {ts:List (T ν)}{rk:ν->Nat}(hr:∀ t∈ts,rk t.2.1<rk t.2.2.1){h g x:ν}(F:Flow ts U h g v)(hv:0<v)(hg:x≠g){ws:List (T ν)}(W:Mc (ts.filter λt=>U t.1) h ws x):∃ t∈ts,U t.1=true/\t.2.1=x:=by
 have e:=F λz=>decide (z=x);rw[DQ<|show ¬ g=x from λz=>hg z.symm]at e;by_cases hh:h=x
 ·rw[DM hh]at e;have:IU ts U (λz=>decide (z=x))=v:=by rw[e];show v * (1 - 0)=v;omega
  exact Be (by omega) (.inl<|by omega)
 ·rw[DQ hh]at e;refine Be (by omega) (.inr ?_)
  cases W with
  | nil=>exact absurd rfl hh
  | @snoc ws t W ht=>
   have:=hr t (DY.mp ht).1;exact⟨t,(DY.mp ht).1,(DY.mp ht).2,rfl,λz=>by rw[z]at this;omega⟩
variable {ν:Type}[DecidableEq ν]
noncomputable def look (U:Int->Bool)(x:ν):List (T ν)->Cm ν×List ν->Cm ν×List ν
 | [],s=>s
 | t::r,s=>match M3 t x U with
  | some z=>if z∈keys s.1 then look U x r s else look U x r (s.1++[(z,some (t.1,x))],s.2++[z])
  | none=>look U x r s
noncomputable def gH (ts:List (T ν))(x:ν):List (T ν):=ts.filter λt=>decide (t.2.1=x) || decide (t.2.2.1=x)
noncomputable def WU (ts:List (T ν))(U:Int->Bool):Nat->Cm ν×List ν->Cm ν
 | 0,s=>s.1
 | n+1,s=>match s.2 with
  | []=>s.1
  | x::w=>WU ts U n (look U x (gH ts x) (s.1,w))
noncomputable def eK (ts:List (T ν))(U:Int->Bool)(N:Nat):Option ν->Cm ν
 | none=>[]
 | some h=>WU ts U N ([(h,none)],[h])
structure Bf (ts:List (T ν)) (U:Int->Bool) (h:ν) (c:Cm ν) (d w:List ν):Prop where
 La:JZ ts U h c
 ks:keys c=d++w
 done:∀ x∈d,∀ t∈ts,∀ z,M3 t x U=some z->z∈keys c
theorem Bf.start (ts:List (T ν))(U:Int->Bool)(h:ν):Bf ts U h [(h,none)] [] [h]:=⟨.one,rfl,λx hx=>nomatch hx⟩
theorem mU:∀ (r:List (T ν))(s:Cm ν×List ν),(∀ t∈r,t∈ts)->JZ ts U h s.1->keys s.1=d++s.2->x∈d->
  JZ ts U h (look U x r s).1/\keys (look U x r s).1=d++(look U x r s).2/\(∀ z∈keys s.1,z∈keys (look U x r s).1)/\∀ t∈r,∀ z,M3 t x U=some z->z∈keys (look U x r s).1
 | [],s,_,C,k,_=>⟨C,k,λz hz=>hz,λt ht=>nomatch ht⟩
 | t::r,s,hr,C,k,hx=>by
  have RJ:∀ t∈r,t∈ts:=λu hu=>hr u<|E6 _ hu;unfold look
  cases hs:M3 t x U with
  | none=>
   obtain⟨a,b,c,e⟩:=mU r s RJ C k hx;refine⟨a,b,c,λu hu z hz=>?_⟩;rcases E3.mp hu with rfl|hu
   ·rw[hs]at hz;cases hz
   ·exact e u hu z hz
  | some y=>
   show JZ ts U h (if y∈keys s.1 then look U x r s else _).1/\_;by_cases hy:y∈keys s.1
   ·simp only[if_pos hy];obtain⟨a,b,c,e⟩:=mU r s RJ C k hx;refine⟨a,b,c,λu hu z hz=>?_⟩;rcases E3.mp hu with rfl|hu
    ·rw[hs]at hz;cases hz;exact c _ hy
    ·exact e u hu z hz
   ·simp only[if_neg hy];have C':JZ ts U h (s.1++[(y,some (t.1,x))]):=.snoc C (by rw[k];exact Ew _ hx) (hr t<|E7 ..) hs hy;have k':keys (s.1++[(y,some (t.1,x))])=d++(s.2++[y]):=by rw[aY,k,Ez];rfl
    obtain⟨a,b,c,e⟩:=mU r (s.1++[(y,some (t.1,x))],s.2++[y]) RJ C' k' hx;have hyk:y∈keys (s.1++[(y,some (t.1,x))]):=by rw[aY];exact Ec _ (by simp[keys])
    refine⟨a,b,λz hz=>c z (by rw[aY];exact Ew _ hz),λu hu z hz=>?_⟩;rcases E3.mp hu with rfl|hu
    ·rw[hs]at hz;cases hz;exact c _ hyk
    ·exact e u hu z hz
theorem zi {t:T ν}{x z:ν}(h:M3 t x U=some z):t.2.1=x\/t.2.2.1=x:=by
 unfold M3 at h;split at h
 ·split at h
  ·exact .inr (by assumption)
  ·cases h
 ·split at h
  ·exact .inl (by assumption)
  ·cases h
theorem Bf.step {ts:List (T ν)}{h x:ν}{c:Cm ν}{d w:List ν}(B:Bf ts U h c d (x::w)):Bf ts U h (look U x (gH ts x) (c,w)).1 (d++[x]) (look U x (gH ts x) (c,w)).2:=by
 obtain⟨a,b,m,e⟩:=mU (x:=x) (d:=d++[x]) _ (c,w) (λt ht=>(DY.mp ht).1) B.La (by rw[B.ks];simp) (by simp);refine⟨a,b,λy hy t ht z hz=>?_⟩;rcases Ea.mp hy with hy|hy
 ·exact m z (B.done y hy t ht z hz)
 ·have hyx:=E5.mp hy;rw[hyx]at hz;refine e t (DY.mpr ⟨ht,?_⟩) z hz;rw[Gy];rcases zi hz with h|h
  ·exact .inl (DM h)
  ·exact .inr (DM h)
def d8 (ts:List (T ν))(nm:List ν):Prop:=∀ t∈ts,t.2.1∈nm/\t.2.2.1∈nm
theorem yk {t:T ν}{x z:ν}(h:M3 t x U=some z):z=t.2.1\/z=t.2.2.1:=by
 unfold M3 at h;split at h
 ·split at h
  ·cases h;exact .inl rfl
  ·cases h
 ·split at h
  ·cases h;exact .inr rfl
  ·cases h
theorem JZ.names {ts:List (T ν)}{h:ν}{c:Cm ν}{nm:List ν}(C:JZ ts U h c)(E:d8 ts nm)(hh:h∈nm):∀ z∈keys c,z∈nm:=by
 induction C with
 | one=>intro z hz;rw[E5.mp hz];exact hh
 | snoc C hx ht hs hy ih=>
  intro z hz;rw[aY]at hz;rcases Ea.mp hz with hz|hz
  ·exact ih z hz
  ·rw[E5.mp hz];rcases yk hs with e|e
   ·rw[e];exact (E _ ht).1
   ·rw[e];exact (E _ ht).2
theorem fZ {xs ys:List ν}(nd:xs.Nodup)(h:∀ x∈xs,x∈ys):xs.length<=ys.length:=by
 induction xs generalizing ys with
 | nil=>exact EE _
 | cons a xs ih=>
  obtain⟨n1,n2⟩:=Ex.mp nd;have ha:=h a<|E7 ..;have:=ih (ys:=ys.erase a) n2 λx hx=>(Gd λe=>n1 (by rw[<- e];exact hx)).mpr<|h x (E6 _ hx);rw[Gg ha]at this;have:=GV ha;rw[Eu];omega
theorem Bf.len {ts:List (T ν)}{h:ν}{c:Cm ν}{d w nm:List ν}(B:Bf ts U h c d w)(E:d8 ts nm)(hh:h∈nm):d.length+w.length<=nm.length/\c.length<=nm.length:=by have:=fZ B.La.nd<|B.La.names E hh;have e:(keys c).length=c.length:=DH _;have e2:=congrArg List.length B.ks;rw[DT]at e2;omega
structure Rea (ts:List (T ν)) (U:Int->Bool) (h:ν) (c:Cm ν):Prop where
 La:JZ ts U h c
 all:∀ x∈keys c,∀ t∈ts,∀ z,M3 t x U=some z->z∈keys c
theorem Cg (E:d8 ts nm)(hh:h∈nm):∀ (n:Nat)(c:Cm ν)(d w:List ν),Bf ts U h c d w->nm.length<=n+d.length->Rea ts U h (WU ts U n (c,w))
 | 0,c,d,w,B,hn=>by have hl:=(B.len E hh).1;have hw:w=[]:=Gm.mp (by omega);subst hw;exact⟨B.La,λx hx=>B.done x (by have:=B.ks;rw[El]at this;rw[<- this];exact hx)⟩
 | n+1,c,d,[],B,hn=>⟨B.La,λx hx=>B.done x (by have:=B.ks;rw[El]at this;rw[<- this];exact hx)⟩
 | n+1,c,d,x::w,B,hn=>Cg E hh n _ (d++[x]) _ B.step (by rw[DT,EI];omega)
theorem uV {ts:List (T ν)}{h:ν}{nm:List ν}(E:d8 ts nm)(hh:h∈nm)(hN:nm.length<=N):Rea ts U h (eK ts U N (some h)):=Cg E hh N _ [] [h] (Bf.start ts U h) (hN)
theorem Rea.closed {ts:List (T ν)}{h:ν}{c:Cm ν}(R:Rea ts U h c):ux ts U (λz=>decide (z∈keys c)):=λt ht x z hx hs=>DM (R.all x (DZ hx) t ht z hs)
noncomputable def PL (U:Ξ)(k:Int):Ξ:=if k∈U then U.filter (λj=>!decide (j=k)) else U++[k]
noncomputable def JH (U:Ξ):Int->Bool:=λk=>decide (k∈U)
theorem UE (U:Ξ)(k:Int):JH (PL U k)=qd (JH U) k:=by
 funext j;unfold JH PL qd;by_cases hk:k∈U
 ·rw[if_pos hk];by_cases hj:j=k
  ·subst hj;rw[if_pos rfl];show _=!decide _;rw[DM hk];simp
  ·simp[hj]
 ·rw[if_neg hk];by_cases hj:j=k
  ·subst hj;rw[if_pos rfl];show _=!decide _;rw[DQ hk];simp
  ·simp[hj]
theorem zg (h:U.Nodup)(k:Int):(PL U k).Nodup:=by
 unfold PL;split
 ·exact h.filter _
 ·rename_i hk;refine Ej.mpr ⟨h,by simp,λa ha b hb e=>?_⟩;rw[E5.mp hb]at e;exact hk (e▸ha)
noncomputable def cw (c:Cm ν)(y:ν):Option (Int×ν):=(c.find? λq=>decide (q.1=y)).bind (·.2)
theorem kM {c pre post:Cm ν}{y:ν}{s:Option (Int×ν)}(nd:(keys c).Nodup)(e:c=pre++(y,s)::post):c.find? (λq=>decide (q.1=y))=some (y,s)/\cw c y=s:=by
 have h1:c.find? (λq=>decide (q.1=y))=some (y,s):=by rw[e,aY]at nd;have hno:pre.find? (λq=>decide (q.1=y))=none:=EU.mpr λq hq z=>(Ej.mp nd).2.2 q.1 (DS hq) y (by simp[keys])<|DZ z;rw[e,GZ,hno];simp
 refine⟨h1,?_⟩;unfold cw;rw[h1];rfl
noncomputable def gK (c:Cm ν):Nat->List Int->Option (Int×ν)->Ξ
 | 0,U,_=>U
 | _+1,U,none=>U
 | n+1,U,some s=>gK c n (PL U s.1) (cw c s.2)
theorem zb (c:Cm ν)(n:Nat)(U:Ξ)(k:Int)(x:ν):gK c (n+1) U (some (k,x))=gK c n (PL U k) (cw c x):=rfl
theorem Back.look {ts:List (T ν)}{V:Int->Bool}{h g y:ν}{c:Cm ν}{s:Option (Int×ν)}(C:JZ ts U h c)(B:Back ts U g c V y s n):cw c y=s/\c.find? (λq=>decide (q.1=y))=some (y,s)/\n<c.length:=by obtain⟨pre,post,e,hn,_⟩:=B.at';obtain⟨h1,h2⟩:=kM C.nd e;refine⟨h2,h1,?_⟩;rw[e,DT,Eu];omega
theorem ye (nd:Nums ts)(C:JZ ts U h c)(F:Flow ts U h g v):∀ (n m:Nat)(V:Ξ)(y:ν)(s:Option (Int×ν)),Back ts U g c (JH V) y s m->m<n->V.Nodup->Flow ts (JH (gK c n V s)) h g (v+1)/\(gK c n V s).Nodup
 | 0,m,V,y,s,B,hm,_=>absurd hm (Ho _)
 | n+1,m,V,y,none,B,hm,hV=>⟨B.stop C F,hV⟩
 | n+1,m,V,y,some (k,x),B,hm,hV=>by obtain⟨s',m',Kb,B'⟩:=B.step nd C;rw[<- UE]at B';have e:=(B'.look C).1;rw[zb,e];exact ye nd C F n m' (PL V k) x s' B' (by omega) (zg hV k)
theorem qi {ts:List (T ν)}{h g:ν}{c:Cm ν}(nd:Nums ts)(C:JZ ts (JH U) h c)(F:Flow ts (JH U) h g v)(hg:g∈keys c)(hU:U.Nodup)(hn:c.length<=n):Flow ts (JH (gK c n U (cw c g))) h g (v+1)/\(gK c n U (cw c g)).Nodup:=by obtain⟨pre,s,post,e⟩:=iJ hg;have B:=Back.start (ts:=ts) (U:=JH U) e;rw[(B.look C).1];exact ye nd C F n _ U g s B (Ey (B.look C).2.2 hn) hU
noncomputable def Ah (ts:List (T ν))(c:Cm ν):Ξ:=aS (rS ts λz=>decide (z∈keys c))
noncomputable def dD (ts:List (T ν))(h:Option ν)(g:ν)(N:Nat):Nat->List Int->Sum Ξ Ξ
 | 0,U=>.inr U
 | m+1,U=>if g∈keys (eK ts (JH U) N h) then dD ts h g N m (gK (eK ts (JH U) N h) N U (cw (eK ts (JH U) N h) g)) else .inl (Ah ts (eK ts (JH U) N h))
theorem j3 (ts:List (T ν))(h:Option ν)(g:ν)(N m:Nat)(U:Ξ):dD ts h g N (m+1) U=if g∈keys (eK ts (JH U) N h) then dD ts h g N m (gK (eK ts (JH U) N h) N U (cw (eK ts (JH U) N h) g)) else .inl (Ah ts (eK ts (JH U) N h)):=rfl
structure Zu (ts:List (T ν)) (h g:ν) (U:Ξ) (ks:Ξ) (p:ν->Bool):Prop where
 closed:ux ts (JH U) p
 hh:p h=true
 hg:p g=false
 ks:ks=aS (rS ts p)
theorem ng (nd:Nums ts)(E:d8 ts nm)(hh:h∈nm)(hN:nm.length<=N):∀ (m:Nat)(U:Ξ)(v:Int),Flow ts (JH U) h g v->U.Nodup->
  (∀ V,dD ts (some h) g N m U=.inr V->Flow ts (JH V) h g (v+m)/\V.Nodup)/\
  (∀ ks,dD ts (some h) g N m U=.inl ks->∃ (i:Nat)(V:Ξ)(p:ν->Bool),i<m/\dD ts (some h) g N i U=.inr V/\Flow ts (JH V) h g (v+i)/\Zu ts h g V ks p/\(ks.length:Int)=v+i)
 | 0,U,v,F,hU=>⟨λV e=>by cases e;exact⟨by simpa using F,hU⟩,λks e=>by cases e⟩
 | m+1,U,v,F,hU=>by
  have R:=uV (U:=JH U) E hh hN;rw[j3];generalize hc:eK ts (JH U) N (some h)=c at R;have cl:c.length<=N:=by have:=fZ R.La.nd<|R.La.names E hh;have e:(keys c).length=c.length:=DH _;omega
  by_cases hg:g∈keys c
  ·rw[if_pos hg];obtain⟨F',hU'⟩:=qi nd R.La F hg hU cl;obtain⟨a,b⟩:=ng nd E hh hN m _ (v+1) F' hU';refine⟨λV e=>?_,λks e=>?_⟩
   ·have:=a V e;rw[show v+((m+1:Nat):Int)=v+1+(m:Int) by omega];exact this
   ·obtain⟨i,V,p,hi,e1,e2,e3,e4⟩:=b ks e;refine⟨i+1,V,p,by omega,?_,?_,e3,by omega⟩
    ·rw[j3,hc,if_pos hg];exact e1
    ·rw[show v+((i+1:Nat):Int)=v+1+(i:Int) by omega];exact e2
  ·rw[if_neg hg];refine⟨(λV e=>by cases e),λks e=>?_⟩
   cases e;have hh':decide (h∈keys c)=true:=DM R.La.Ji;have Yx:decide (g∈keys c)=false:=DQ hg;refine⟨0,U,λz=>decide (z∈keys c),by omega,rfl,by simpa using F,⟨R.closed,hh',Yx,rfl⟩,?_⟩;have:=F.cut R.closed hh' Yx;unfold Ah aS;rw[DH,this];simp
noncomputable def JO (L:List (T ν))(x:ν):Option (T ν):=L.find? λt=>decide (t.2.1=x)
noncomputable def cZ (L:List (T ν))(g:ν):Nat->ν->List (T ν)
 | 0,_=>[]
 | n+1,x=>if x=g then [] else match JO L x with
  | none=>[]
  | some t=>t::cZ L g n t.2.2.1
theorem CY {L:List (T ν)}{x:ν}{t:T ν}(h:JO L x=some t):t∈L/\t.2.1=x:=⟨ED h,by simpa using Fy h⟩
theorem tu {ts:List (T ν)}{rk:ν->Nat}(hr:∀ t∈ts,rk t.2.1<rk t.2.2.1){h g:ν}(F:Flow ts U h g v)(hv:0<v)(hN:∀ z,rk z<N):∀ (n:Nat)(x:ν)(ws:List (T ν)),Mc (ts.filter λt=>U t.1) h ws x->N<=n+rk x->Mc (ts.filter λt=>U t.1) h (ws++cZ (ts.filter λt=>U t.1) g n x) g
 | 0,x,ws,W,hn=>absurd (hN x) (by omega)
 | n+1,x,ws,W,hn=>by
  unfold cZ;by_cases hx:x=g
  ·rw[if_pos hx,El,<- hx];exact W
  ·rw[if_neg hx]
   cases ho:JO (ts.filter λt=>U t.1) x with
   | none=>
    obtain⟨t,ht,hU,e⟩:=F.Ta hr hv hx W;exact absurd (DM e) (EU.mp ho t<|DY.mpr ⟨ht,hU⟩)
   | some t=>
    obtain⟨h1,h2⟩:=CY ho;subst h2;have:=hr t (DY.mp h1).1;have:=tu hr F hv hN n t.2.2.1 (ws++[t]) (.snoc W h1) (by omega);rw[Ez]at this;exact this
noncomputable def gJ (h g:ν)(N:Nat):Nat->List (T ν)->Θ
 | 0,_=>[]
 | m+1,L=>aS (cZ L g N h)::gJ h g N m (L.filter λt=>!decide (t.1∈aS (cZ L g N h)))
theorem v3 {ts:List (T ν)}(nd:Nums ts){rk:ν->Nat}(hr:∀ t∈ts,rk t.2.1<rk t.2.2.1){h g:ν}(hN:∀ z,rk z<N):∀ (m:Nat)(U:Int->Bool),Flow ts U h g (m:Int)->
  ∃ MT:List (List (T ν)),gJ h g N m (ts.filter λt=>U t.1)=MT.map aS/\MT.length=m/\(∀ ws∈MT,Mc (ts.filter λt=>U t.1) h ws g)/\(MT.map aS).flatten.Nodup
 | 0,U,F=>⟨[],rfl,rfl,(λws hw=>nomatch hw),Ft⟩
 | m+1,U,F=>by
  have W:=tu hr F (by omega) hN N h [] (.nil h) (by omega);rw[EW]at W;unfold gJ;generalize cZ (ts.filter λt=>U t.1) g N h=ws at W;have up:=W.up (rk:=rk) λt ht=>hr t (DY.mp ht).1;have hn:=oC nd (λt ht=>(DY.mp<|W.sub t ht).1) up.2.2;have F':=F.without nd W hn;rw[show ((m+1:Nat):Int) - 1=(m:Int) by omega]at F';obtain⟨MT,e,hl,hw,VL⟩:=v3 nd hr hN m _ F';have ef:(ts.filter λt=>U t.1).filter (λt=>!decide (t.1∈aS ws))=ts.filter λt=>Wy.without U (aS ws) t.1:=by rw[List.filter_filter];refine HI λt _=>?_;unfold Wy.without;rw[Bool.and_comm]
  rw[ef,e];have Yf:∀ vs∈MT,Mc (ts.filter λt=>U t.1) h vs g/\∀ k∈aS vs,¬ k∈aS ws:=λvs hv=>by
   have V:=hw vs hv;have:∀ {x y:ν}{vs:List (T ν)},Mc (ts.filter λt=>Wy.without U (aS ws) t.1) x vs y->Mc (ts.filter λt=>U t.1) x vs y:=by
    intro x y vs V
    induction V with
    | nil=>exact .nil _
    | snoc V ht ih=>
     refine .snoc ih ?_;obtain⟨a,b⟩:=DY.mp ht;unfold Wy.without at b;rw[F6]at b;exact DY.mpr ⟨a,b.1⟩
   refine⟨this V,λk hk z=>?_⟩;obtain⟨t,ht,rfl⟩:=DI.mp hk;obtain⟨a,b⟩:=DY.mp<|V.sub t ht;unfold Wy.without at b;rw[DM z]at b;simp at b
  refine⟨ws::MT,rfl,by rw[Eu,hl],λvs hv=>?_,?_⟩
  ·rcases E3.mp hv with rfl|hv
   ·exact W
   ·exact (Yf vs hv).1
  ·rw[DX,GA];refine Ej.mpr ⟨hn,VL,λa ha b hb WT=>?_⟩;obtain⟨l,MU,OT⟩:=List.mem_flatten.mp hb;obtain⟨vs,NC,rfl⟩:=DI.mp MU;exact (Yf vs NC).2 b OT (WT▸ha)
end L2.Wy
namespace K92
open PySem L2 L2.Wy
open PyProof.Rows (boot_all boot_bool boot_dict boot_int boot_list boot_sorted boot_str boot_tuple)
noncomputable abbrev bT (U:Ξ):D:=Jq (U.map λk=>(.inl k,.bl true))
theorem fP:(cI (U.map λk=>((.inl k:Key),D.bl true)) (.inl k)).isSome=JH U k:=by have:=VT (l:=U) (f:=λz=>z) (g:=λ_=>D.bl true) (y:=k);rwa [List.map_id']at this
noncomputable def oD:Option Str->D
 | none=>.non
 | some x=>.str x
noncomputable def aZ (ts:List IJ):Option Ξ->List IJ
 | none=>ts
 | some ks=>ts.filter λt=>!decide (t.1∈ks)
noncomputable def iT:Option (Int×Str)->D
 | none=>.non
 | some s=>.tup [.int s.1,.str s.2]
noncomputable abbrev eY (c:Cm Str):D:=Jq (c.map λq=>(.inr q.1,iT q.2))
theorem eo:(cI (c.map λq=>((.inr q.1:Key),iT q.2)) (.inr y)).isSome=decide (y∈keys c):=VS
section
variable {c:Cl}
inductive lE (c:Cl):Ä
 |mk {S:NS}{fo:Λ}:S.HM.length<=1000->lE c [aI c S,Og fo] (bL (aZ S.HM fo))
noncomputable abbrev d9:Stmt:=top 71
theorem kN:ae ["net","fallen"] ["net","fallen"] (a8 d9):=IM
theorem lg (F:Iy K "standing_ties" "standing_ties" d9 f fd)(HV:Dm P w K mg base 1 c.IU "ties" Þ (Pr (kC c))):HP P w K mg base Ik 2 f fd ["net","fallen"] (Pr (lE c)):=by
 refine F.dv kN ?_ λHU A _ s H E hr=>(qC (qI (dT l9 qK (Đ 1)<|dC b6)
  (q1<|qR (gO (Đ 0) HV hr.m))
  q0)
 (q1 (qR (Od 0 rfl (cS 1 [1] ["tie","fallen"]) (ax<|gO (Đ 0) HV hr.m)
  (λ_ _ _ _ _=>pC 0)
  (λ_ _ _ _ _=>c6<|Ra (ao hr) (dS (ao hr) (Đ 0)<|dC aa) (Đ 1))
  (λ_ _ _ _ _=>Đ 0)))))
 rintro _ _ @⟨S,fo,hl⟩
 cases fo with
 | none=>exact⟨rfl,.inl<|.rt (.t ⟨rfl,rfl,by exact⟨⟩⟩ ⟨⟨rfl,rfl,by decide,⟨hl⟩⟩,rfl⟩)⟩
 | some ks=>exact⟨rfl,.inl<|.nx (.f ⟨rfl,rfl,by exact⟨⟩⟩ rfl) ⟨bh (λt=>!decide _) ⟨⟨rfl,rfl,by decide,⟨hl⟩⟩,.l .lst⟩ hl λt _=>⟨_,rfl,⟨⟨rfl,rfl,.t rfl⟩,rfl,kg⟩,λ_=>rfl⟩,rfl⟩⟩
inductive KN:Ä
 |mk {t:IJ}{x:Str}{U:Ξ}:KN [bO t,.str x,bT U] (oD (M3 t x (JH U)))
noncomputable abbrev hZ:Stmt:=top 73
theorem sC:ae ą ą (a8 hZ):=IM
theorem tE (F:Iy K "step_over" "step_over" hZ f fd):HP P w K mg base Ik 1 f fd ą (Pr KN):=by
 refine F.dv sC ?_ λHU A outer s H E hr=>(qC (qI (TC (ao hr) (dS (ao hr) (Đ 0)<|dC aa)<|Đ 2)
  (q1<|qR (Th (dT bf cF (dS (ao hr) (Đ 0)<|dC aa)<|Đ 1) (dS (ao hr) (Đ 0)<|dC aa)<|dC b6))
  q0)
 (q1<|qR (Th (dT bf cF (dS (ao hr) (Đ 0)<|dC aa)<|Đ 1) (dS (ao hr) (Đ 0)<|dC aa)<|dC b6)))
 rintro _ _ @⟨t,x,U⟩;have r1:=eq_str (ε:=[some<|bO t,some<|.str x,some<|bT U]) (ra:=rO Sub (rV 0)<|rC (.int 1)) (rb:=rV 1) ⟨rfl,rfl,.t rfl⟩ rfl;have r2:=eq_str (ε:=[some<|bO t,some<|.str x,some<|bT U]) (ra:=rO Sub (rV 0)<|rC (.int 2)) (rb:=rV 1) ⟨rfl,rfl,.t rfl⟩ rfl;unfold M3
 cases hu:JH U t.1 with
 | true=>
  refine⟨rfl,.inl<|.rt (.t ⟨⟨rfl,rfl,.t rfl⟩,rfl,.k rfl kI (by rw[fP,hu];rfl)⟩ ⟨?_,rfl⟩)⟩;by_cases z:t.2.2.1=x
  ·rw[DM z]at r2;rw[if_pos z];exact .t r2 ⟨rfl,rfl,.t rfl⟩
  ·rw[DQ z]at r2;rw[if_neg z];exact .f r2 rfl
 | false=>
  refine⟨rfl,.inl<|.nx (.f ⟨⟨rfl,rfl,.t rfl⟩,rfl,.k rfl kI (by rw[fP,hu];rfl)⟩ rfl) ⟨?_,rfl⟩⟩;by_cases z:t.2.1=x
  ·rw[DM z]at r1;rw[if_pos z];exact .t r1 ⟨rfl,rfl,.t rfl⟩
  ·rw[DQ z]at r1;rw[if_neg z];exact .f r1 rfl
inductive iC:Ä
 |mk {ts:List IJ}{x:Str}{t:IJ}:JO ts x=some t->iC [bL ts,.str x] (bO t)
noncomputable abbrev g7:Stmt:=top 77
theorem LX:ae ["ties","name","tie"] ["ties","name"] (a8 g7):=IM
theorem pX (F:Iy K "tie_out_of" "tie_out_of" g7 f fd):HP P w K mg base Ik 1 f fd ["ties","name"] (Pr iC):=by
 have ND:=LX.nd;refine F.dv LX ?_ λHU A _ s H E hr=>(qC (PR E1 rfl (ax<|Đ 0) (pN 2 ND) (aN 2)
  (q1 (qI (dT bf cF (dS (ao hr) (Đ 2)<|dC aa)<|Đ 1)
  (q1<|qR (Đ 2))
  q0)))
 (q1<|qR (dC b6)))
 rintro _ _ @⟨ts,x,t,ht⟩;refine⟨rfl,.inl ?_⟩;refine h8 ts (λε=>∃ o,ε=[.fz _,.fz _,o]) (λt=>decide _) bO ⟨_,rfl⟩ ⟨rfl,.l .lst⟩ (λt ε _ gR=>?_) (λu h=>by rw[Option.some.inj<|ht.symm.trans h]) λh=>nomatch ht.symm.trans h
 obtain⟨o,he⟩:=gR;subst he;have r1:=eq_str (ε:=[some<|bL ts,some<|.str x,some<|bO t]) (ra:=rO Sub (rV 2)<|rC (.int 1)) (rb:=rV 1) ⟨rfl,rfl,.t rfl⟩ rfl;refine⟨_,rfl,?_⟩;by_cases z:t.2.1=x
 ·rw[DM z]at r1 ⊢;exact .t r1 ⟨rfl,rfl⟩
 ·rw[DQ z]at r1 ⊢;exact⟨_,.f r1 rfl,_,rfl⟩
inductive fK:Ä
 |mk {ts:List IJ}{c:Cm Str}:ts.length<=1000->fK [bL ts,eY c] (rw (Ah ts c))
noncomputable abbrev dH:Stmt:=top 76
theorem lZ:ae ["ties","came"] ["ties","came"] (a8 dH):=IM
theorem mj (F:Iy K "ties_between" "ties_between" dH f fd):HP P w K mg base Ik 1 f fd ["ties","came"] (Pr fK):=by
 refine F.dv lZ ?_ λHU A _ s H E hr=>(q1 (qR (Od 4 rfl (cS 4 [1] ["number","one","other","delay","came"]) (ax<|Đ 0)
  (λ_ _ _ _ _=>cr K rfl<|af (pC 0) (af (pC 1)<|af (pC 2) (af (pC 3) aD)))
  (λ_ _ _ _ _=>c6<|PW.pt (Ag (TC (ao hr) (Đ 1)<|Đ 4)<|gf (Ra (ao hr) (Đ 2)<|Đ 4)))
  (λ_ _ _ _ _=>Đ 0))))
 rintro _ _ @⟨ts,cm,hl⟩;refine⟨rfl,.inl ⟨bh _ ⟨rfl,.l .lst⟩ hl λt _=>⟨_,⟨rfl,rfl⟩,?_,λ_=>rfl⟩,P9 _ _⟩⟩;show AY _ _ _ (decide _&&!decide _)
 cases z:decide (t.2.1∈keys cm) with
 | true=>exact .t ⟨rfl,rfl,.k rfl kS (by rw[eo,z];rfl)⟩ ⟨rfl,rfl,.k rfl kS (by rw[eo];rfl)⟩
 | false=>exact .f ⟨rfl,rfl,.k rfl kS (by rw[eo,z];rfl)⟩
end
section
variable {c:Cl}
theorem ne_str (ha:ra ε (.str x))(hb:rb ε (.str y)):rO (fE true) ra rb ε (.bl (decide (x≠y))):=.mk ha hb (.mk rfl rfl rfl<|congrArg _ (by rw[<- decide_not];exact FD.mpr ⟨λh z=>h<|V.str.inj z,λh z=>h<|congrArg V.str z⟩))
theorem Cp {ws:List IJ}(A:Mc ts x ws y)(B:Mc ts x ws z):y=z:=by
 cases A with
 | nil=>exact (by generalize hw:([])=ws at B;cases B with|nil=>rfl|snoc _ _=>exact absurd hw.symm<|by simp)
 | snoc A1 h1=>
  generalize hw:_++[_]=ws at B
  cases B with
  | nil=>exact absurd hw (by simp)
  | snoc B1 h2=>rw[(Hc hw rfl).2 |> List.cons.inj |>.1]
inductive MR:Ä
 |mk {L:List IJ}{h g:Str}{N:Nat}:Mc L h (cZ L g N h) g->(cZ L g N h).length<=1000->MR [bL L,.str h,.str g] (rw (aS (cZ L g N h)))
noncomputable abbrev kU:Stmt:=top 78
theorem NP:ae ["ties","home","listener","way","name","tie"] Ĉ (a8 kU):=IM
theorem xi (F:Iy K "one_way" "one_way" kU f fd)(KP:Df P w K mg base 1 "tie_out_of" ["ties","name"] (Pr iC)):HP P w K mg base Ik 2 f fd Ĉ (Pr MR):=by
 have ND:=NP.nd;refine F.dv NP ?_ λHU A outer s H E hr=>(qC (qO (pS 3 ND<|d7 HS) λ_ _ _ h=>h)
 (qC (qS (pS 4 ND<|Đ 1) λ_ _ _ h=>h)
 (qC (qW E1 (dT oh xt (Đ 4)<|Đ 2)
  (qC (qS (pS 5 ND<|dF KP hr.m rfl (da (Đ 0)<|da (Đ 4) HS)) λ_ _ _ h=>h)
 (qC (qA (aE<|Pz K Ek Ep Eo aO (pv 3) (a9 (dS (ao hr) (Đ 5)<|dC aa) D')) λ_ _ _ h=>h)
 (q1<|qS (pS 4 ND<|dS (ao hr) (Đ 5) (dC aa)) (λ_ _ _ h=>h)))))
 (q1<|qR (Đ 3)))))
 rintro _ _ @⟨L,h,g,N,W,hl⟩;refine⟨rfl,.inl<|.nx ⟨⟨rfl,by simp,rfl⟩⟩ (.nx ⟨rfl⟩ ?_)⟩;refine g6 (b:=(N,[],h)) (λb ε=>Mc L h b.2.1 b.2.2/\b.2.1++cZ L g b.1 b.2.2=cZ L g N h/\∃ o,ε=[.fz<|bL L,.fz<|.str h,.fz<|.str g,.ow<|rw (aS b.2.1),.fz<|.str b.2.2,o]) (·.1) ⟨.nil h,rfl,_,rfl⟩ λgR ε SW=>?_;obtain⟨n,ws,x⟩:=gR;obtain⟨A,e,o,he⟩:=SW;subst he;have rd:=ne_str (ε:=[some<|bL L,some<|.str h,some<|.str g,some<|rw (aS ws),some<|.str x,o.a]) (ra:=rV 4) (rb:=rV 2) rfl rfl;by_cases z:x=g
 ·rw[DQ λy=>y z]at rd;have e0:cZ L g n x=[]:=by cases n with
   | zero=>rfl
   | succ n=>unfold cZ;rw[if_pos z]
  rw[e0,El]at e;exact .inl ⟨rd,rfl,by rw[e]⟩
 ·rw[DM z]at rd;have nn:cZ L g n x≠[]:=λy=>z (by rw[y,El]at e;rw[<- e]at W;exact Cp A W)
  cases n with
  | zero=>exact absurd rfl nn
  | succ n=>
   cases ho:JO L x with
   | none=>exact absurd (by unfold cZ;rw[if_neg z,ho]) nn
   | some t=>
    rw[show cZ L g (n+1) x=t::cZ L g n t.2.2.1 by conv=>lhs;unfold cZ;rw[if_neg z,ho]]at e;have e2:(ws++[t])++cZ L g n t.2.2.1=cZ L g N h:=by rw[Ez];exact e
    have tl:=congrArg List.length e2;rw[DT,DT,EI]at tl;have tx:=DZ<|Fy (p:=λt:IJ=>decide (t.2.1=x)) ho;refine .inr ⟨rd,(n,ws++[t],t.2.2.1),_,.nx ⟨⟨rfl,rfl,rfl⟩,⟨ho⟩⟩<|.nx ⟨rfl,by unfold aS;simp;omega,.z ⟨rfl,rfl,.t rfl⟩⟩ ⟨rfl,rfl,.t rfl⟩,⟨.snoc (tx▸A)<|ED ho,e2,.fz<|bO t,?_⟩,EX _⟩;dsimp only;rw[show rw (aS<|ws++[t])=.lst (List.map D.int (aS ws)++[.int t.1]) by unfold aS;rw[DP];exact congrArg D.lst DP];rfl
theorem za (U:Ξ)(k:Int):rM (U.map λk=>((.inl k:Key),D.bl true)) (.inl k)=(U.filter λj=>!decide (j=k)).map λk=>((.inl k:Key),D.bl true):=by
 unfold rM;rw[List.filter_map];congr 1;exact HI λj _=>by rw[<- decide_not];exact FD.mpr ⟨λh z=>h<|congrArg _ z,λh z=>h<|Sum.inl.inj z⟩
theorem yf (U:Ξ)(k:Int):(PL U k).length<=U.length+1:=by
 unfold PL;split
 ·exact Nat.le_succ_of_le (Eh _ _)
 ·simp
inductive MQ (c:Cm Str):Nat->Option (Int×Str)->Prop
 |done {n:Nat}:MQ c n none
 |step {n:Nat}{k:Int}{x:Str}{s:Option (Int×Str)}:c.find? (λq=>decide (q.1=x))=some (x,s)->MQ c n s->MQ c (n+1) (some (k,x))
theorem yW {c:Cm Str}(h:c.find? (λq=>decide (q.1=x))=some (x,s)):cI (c.map λq=>((.inr q.1:Key),iT q.2)) (.inr x)=some (iT s):=by rw[gS,funext λq=>FD.mpr ⟨Sum.inr.inj,congrArg _⟩,h];rfl
inductive jC:Ä
 |mk {U:Ξ}{c:Cm Str}{g:Str}{n:Nat}{s:Option (Int×Str)}:c.find? (λq=>decide (q.1=g))=some (g,s)->MQ c n s->U.Nodup->U.length+n<=1000->jC [bT U,eY c,.str g] (bT (gK c n U s))
noncomputable abbrev h9:Stmt:=top 75
theorem Mr:ae ["used","came","listener","told","step"] ĉ (a8 h9):=IM
theorem tw (F:Iy K "used_with" "used_with" h9 f fd)(T:Dx mg):HP P w K mg base Ik 1 f fd ĉ (Pr jC):=by
 have ND:=Mr.nd;refine F.dv Mr ?_ λHU A outer s H E hr=>(qC (qO (pS 3 ND<|a28 rfl rfl T.Ko (da (Đ 0) HS)) λ_ _ _ h=>h)
 (qC (qS (pS 4 ND<|dS (ao hr) (Đ 1) (Đ 2)) λ_ _ _ h=>h)
 (qC (qW E1 (dT gp qJ (Đ 4)<|dC b6)
  (qC (qI (TC (ao hr) (dS (ao hr) (Đ 4)<|dC aa)<|Đ 3)
  (q1<|Xz (aE<|Ba (pv 3) (dS (ao hr) (Đ 4)<|dC aa) ⟨rfl,rfl,rfl,rfl⟩))
  (q1<|qP (cA (ao hr) (pv 3) (dS (ao hr) (Đ 4)<|dC aa) (dC cG) rfl) (λ_ _ _ h=>h)))
 (q1<|qS (pS 4 ND<|dS (ao hr) (Đ 1) (dS (ao hr) (Đ 4)<|dC aa)) (λ_ _ _ h=>h))))
 (q1<|qR (Đ 3)))))
 rintro _ _ @⟨U,cm,g,n,s,hg,ss,nd,hl⟩;have em:Jq (gu []<|U.map λk=>((.inl k:Key),D.bl true))=bT U:=by rw[lu (by rw[EW];exact tV<|by rwa [List.map_id'])];rfl
 have dk:=cDk.mk (ð:=U.map λk=>((.inl k:Key),D.bl true));rw[em]at dk;refine⟨rfl,.inl<|.nx ⟨⟨⟨rfl,rfl⟩,dk⟩⟩ (.nx ⟨rfl,rfl,.k (yW hg) kS⟩ ?_)⟩;refine g6 (b:=(n,U,s)) (λb ε=>MQ cm b.1 b.2.2/\b.2.1.length+b.1<=1000/\gK cm b.1 b.2.1 b.2.2=gK cm n U s/\ε=[.fz<|bT U,.fz<|eY cm,.fz<|.str g,.ow<|bT b.2.1,.fz<|iT b.2.2]) (·.1) ⟨ss,hl,rfl,rfl⟩ λgR ε SW=>?_;obtain⟨n',V,s'⟩:=gR;obtain⟨ss,hl,e,he⟩:=SW;dsimp only at ss hl e he;subst he
 cases ss with
 | done=>
  have:gK cm n' V none=V:=by cases n' <;> rfl
  exact .inl ⟨⟨rfl,rfl,by exact⟨⟩⟩,rfl,by rw[<- e,this]⟩
 | @step n1 k x s1 h1 s2=>
  have e1:cw cm x=s1:=by unfold cw;rw[h1];rfl
  have e2:gK cm n1 (PL V k) s1=gK cm n U s:=by rw[<- e,<- e1];rfl
  have tl:=yf V k;refine .inr ⟨⟨rfl,rfl,by exact⟨⟩⟩,(n1,PL V k,s1),_,.nx (ε1:=[.fz<|bT U,.fz<|eY cm,.fz<|.str g,.ow<|bT (PL V k),.fz<|iT (some (k,x))]) ?_ ⟨⟨rfl,⟨rfl,rfl,.t rfl⟩,.k (yW h1) kS⟩⟩,⟨s2,by show (PL V k).length+n1<=1000;omega,e2,rfl⟩,EX _⟩;unfold PL;by_cases z:k∈V
  ·rw[if_pos z];obtain⟨v,hv⟩:=Fp.mp (fP |>.trans (DM z));have:=Rw.mk (i:=3) (rk:=rO Sub (rV 4)<|rC (.int 0)) (ε:=[.fz<|bT U,.fz<|eY cm,.fz<|.str g,.ow<|bT V,.fz<|iT (some (k,x))]) rfl ⟨rfl,rfl,.t rfl⟩ kI hv;rw[za]at this;exact .t ⟨⟨rfl,rfl,.t rfl⟩,rfl,.k rfl kI (by rw[fP,JH,DM z];rfl)⟩ this
  ·rw[if_neg z];have:=UU.mk (i:=3) (rk:=rO Sub (rV 4)<|rC (.int 0)) (re:=rC<|.bl true) (ε:=[.fz<|bT U,.fz<|eY cm,.fz<|.str g,.ow<|bT V,.fz<|iT (some (k,x))]) rfl (by rw[DH];omega) (.z rfl) ⟨rfl,rfl,.t rfl⟩ kI;rw[dY λy=>z<|by simpa using y]at this;rw[show bT (V++[k])=Jq (V.map (λk=>((.inl k:Key),D.bl true))++[(.inl k,.bl true)]) from congrArg Jq DP];exact .f ⟨⟨rfl,rfl,.t rfl⟩,rfl,.k rfl kI (by rw[fP,JH,DQ z];rfl)⟩ this
end
noncomputable abbrev gT (nm:η)(ts:List IJ):D:=Jq (nm.map λx=>(.inr x,bL (gH ts x)))
noncomputable def vF (U:Int->Bool)(x:Str)(s:Cm Str×η)(t:IJ):Cm Str×η:=match M3 t x U with
 | some z=>if z∈keys s.1 then s else (s.1++[(z,some (t.1,x))],s.2++[z])
 | none=>s
theorem qU (U:Int->Bool)(x:Str):∀ (r:List IJ)(s:Cm Str×η),look U x r s=r.foldl (vF U x) s
 | [],_=>rfl
 | t::r,s=>by
  rw[Gw,<- qU U x r];unfold vF
  conv=>lhs;unfold look
  cases M3 t x U with
  | none=>rfl
  | some z=>
   by_cases c:z∈keys s.1
   ·simp only[if_pos c]
   ·simp only[if_neg c]
section
variable {P:É}{w:World}{K:Ψ}{mg:Ω}{base:Heap}{f:Addr}{fd:È}
inductive Lq:Ä
 |n {d e:D}:Lq [.non,d,e] (eY [])
 |s {h:Str}{nm:η}{ts:List IJ}{U:Ξ}{N:Nat}:d8 ts nm->h∈nm->nm.Nodup->nm.length<=N->nm.length<=900->Lq [.str h,gT nm ts,bT U] (eY (eK ts (JH U) N (some h)))
noncomputable abbrev dI:Stmt:=top 74
theorem KY:ae ["home","touching","used","came","waiting","name","tie","nearby"] Ċ (a8 dI):=IM
theorem mB (F:Iy K "reached_from" "reached_from" dI f fd)(T:jB mg)(Lv:Df P w K mg base 1 "step_over" ą (Pr KN)):HP P w K mg base Ik 2 f fd Ċ (Pr Lq):=by
 have ND:=KY.nd;refine F.dv KY ?_ λHU A outer s H E hr=>(qC (qI (dT l9 qK (Đ 0)<|dC b6)
  (q1<|qR Z'.p)
  q0)
 (qC (qO (pS 3 ND<|dD1 (Đ 0) (dC b6)) λ_ _ _ h=>h)
 (qC (qO (pS 4 ND<|d7 (da (Đ 0) HS)) λ_ _ _ h=>h)
 (qC (qW E1 (dT qF gr (dB b5 aG rfl T.IH boot_len<|da (Đ 4) HS)<|dC aa)
  (qC (Xy<|pS 5 ND (Pz K Ek PySem.F.slot_list_pop PySem.F.type_list_pop Bu (pv 4)<|a9 aa D'))
 (q1 (PR E1 rfl (ax<|dS (ao hr) (Đ 1) (Đ 5)) (pN 6 ND) (aN 6)
  (qC (qS (pS 7 ND<|dF Lv hr.m rfl (da (Đ 6)<|da (Đ 5) (da (Đ 2) HS))) λ_ _ _ h=>h)
 (q1 (qI (PW.pt<|Ag (dT gp qJ (Đ 7)<|dC b6) (gf<|Ra (ao hr) (Đ 7) (Đ 3)))
  (qC (qP (cA (ao hr) (pv 3) (Đ 7) (mM<|da (dS (ao hr) (Đ 6)<|dC aa) (da (Đ 5) HS)) rfl) λ_ _ _ h=>h)
 (q1<|qA (aE<|Pz K Ek Ep Eo aO (pv 4) (a9 (Đ 7) D')) (λ_ _ _ h=>h)))
  q0)))))))
 (q1<|qR (Đ 3))))))
 intro _ _ r
 cases r with
 | n=>exact⟨rfl,.inl<|.rt (.t ⟨rfl,rfl,by exact⟨⟩⟩ ⟨rfl,rfl⟩)⟩
 | @s h nm ts U N E hh nd hN hz=>
  refine⟨rfl,.inl<|.nx (.f ⟨rfl,rfl,by exact⟨⟩⟩ rfl) (.nx ⟨⟨rfl,kS,rfl,rfl⟩⟩ (.nx ⟨⟨⟨rfl,rfl⟩,by simp,rfl⟩⟩ ?_))⟩;refine g6 (β:=Nat×Cm Str×η) (b:=(N,[(h,none)],[h])) (λb ε=>(∃ d,Bf ts (JH U) h b.2.1 d b.2.2/\nm.length<=b.1+d.length)/\WU ts (JH U) b.1 b.2=eK ts (JH U) N (some h)/\∃ o5 o6 o7,ε=[.fz<|.str h,.fz<|gT nm ts,.fz<|bT U,.ow<|eY b.2.1,.ow<|bI b.2.2,o5,o6,o7]) (·.1) ⟨⟨[],Bf.start ..,by simpa using hN⟩,rfl,_,_,_,rfl⟩ λgR ε SW=>?_;obtain⟨n,cm,wt⟩:=gR;obtain⟨⟨d,B,hn⟩,eN,o5,o6,o7,he⟩:=SW;dsimp only at B hn eN he;subst he;have bl:=B.len E hh;have rd:=gt_int (ε:=[some<|.str h,some<|gT nm ts,some<|bT U,some<|eY cm,some<|bI wt,o5.a,o6.a,o7.a]) (ra:=rF M0<|rA (rV 4) Of) (rb:=rC<|.int 0) ⟨⟨rfl,rfl⟩,M0.m⟩ rfl
  cases wt with
  | nil=>
   have:WU ts (JH U) n (cm,[])=cm:=by cases n <;> rfl
   exact .inl ⟨rd,rfl,by rw[<- eN,this]⟩
  | cons x wt=>
   rw[DM<|by simp]at rd;rw[Eu]at bl;obtain⟨n,rfl⟩:∃ n',n=n'+1:=⟨n - 1,by omega⟩
   have xn:x∈nm:=B.La.names E hh x (by rw[B.ks];simp);have st:=B.step;have eN:WU ts (JH U) n (look (JH U) x (gH ts x) (cm,wt))=eK ts (JH U) N (some h):=eN;rw[qU]at st eN;refine .inr ⟨rd,(n,(gH ts x).foldl (vF (JH U) x) (cm,wt)),oW (ε1:=[.fz<|.str h,.fz<|gT nm ts,.fz<|bT U,.ow<|eY cm,.ow<|bI wt,.fz<|.str x,o6,o7]) ⟨rfl⟩ ?_⟩;refine YW (u:=bO) (gH ts x) (λs ε=>(keys s.1).Nodup/\(∀ y∈keys s.1,y∈nm)/\s.2.length<=s.1.length/\∃ o6 o7,ε=[.fz<|.str h,.fz<|gT nm ts,.fz<|bT U,.ow<|eY s.1,.ow<|bI s.2,.fz<|.str x,o6,o7]) (vF (JH U) x) (b:=(cm,wt)) ⟨B.La.nd,B.La.names E hh,?_,_,_,rfl⟩ ⟨⟨rfl,rfl,.k (fO (Vf (f:=λx=>x)<|by rwa [List.map_id'])<|DS xn) kS⟩,.l .lst⟩ (λs t ε ht gR=>?_) λε' gR=>by obtain⟨_,_,_,o6,o7,he⟩:=gR;exact⟨⟨⟨d++[x],st,by simp;omega⟩,eN,_,_,_,he⟩,EX _⟩
   ·have:=congrArg List.length B.ks;unfold keys at this;simp at this;show wt.length<=cm.length;omega
   ·obtain⟨h1,h2,h3,o6,o7,he⟩:=gR;subst he;have kl:=fZ h1 h2;have kl:s.1.length<=nm.length:=by unfold keys at kl;rwa [DH]at kl
    have tm:=(DY.mp ht).1;have so:=KN.mk (t:=t) (x:=x) (U:=U);refine⟨_,rfl,?_⟩;unfold vF
    cases hs:M3 t x (JH U) with
    | none=>
     rw[hs]at so;exact⟨_,.nx ⟨⟨rfl,rfl,rfl,rfl⟩,so⟩<|.f (.f ⟨rfl,rfl,by exact⟨⟩⟩) rfl,h1,h2,h3,.fz<|bO t,.fz .non,rfl⟩
    | some z=>
     rw[hs]at so;by_cases cz:z∈keys s.1
     ·simp only[if_pos cz];exact⟨_,.nx ⟨⟨rfl,rfl,rfl,rfl⟩,so⟩<|.f (.t ⟨rfl,rfl,by exact⟨⟩⟩ ⟨rfl,rfl,.k rfl kS (by rw[eo,DM cz];rfl)⟩) rfl,h1,h2,h3,.fz<|bO t,.fz<|.str z,rfl⟩
     ·simp only[if_neg cz];have zn:z∈nm:=(yk hs).elim (λe=>e▸(E t tm).1) λe=>e▸(E t tm).2;refine⟨_,.nx ⟨⟨rfl,rfl,rfl,rfl⟩,so⟩<|.t (.t ⟨rfl,rfl,by exact⟨⟩⟩ ⟨rfl,rfl,.k rfl kS (by rw[eo,DQ cz];rfl)⟩) (.nx ⟨rfl,by rw[DH];omega,.z ⟨⟨⟨rfl,rfl,.t rfl⟩,rfl,rfl⟩,by simp,rfl⟩,rfl,kS⟩ ⟨rfl,by rw[DH];omega,.z rfl⟩),?_,?_,?_,.fz<|bO t,.fz<|.str z,?_⟩
      ·rw[aY];exact Ej.mpr ⟨h1,by simp[keys],λa ha b hb=>by rw[E5.mp hb];exact λ(e:a=z)=>cz<|e▸ha⟩
      ·rw[aY];exact λy hy=>(Ea.mp hy).elim (h2 y) λe=>by rw[E5.mp e];exact zn
      ·simpa using h3
      ·rw[dY λy=>cz (by rw[DL]at y;obtain⟨q,a,b⟩:=DI.mp y;exact DI.mpr ⟨q,a,Sum.inr.inj b⟩),show eY (s.1++[(z,some (t.1,x))])=Jq (s.1.map (λq=>((.inr q.1:Key),iT q.2))++[(.inr z,iT<|some (t.1,x))]) from congrArg Jq DP,show bI (s.2++[z])=.lst (s.2.map .str++[.str z]) from congrArg D.lst DP];rfl
end
structure Parts (ts:List IJ) (N:Nat):Prop where
 nd:Nums ts
 rk:∃ rk:Str->Nat,(∀ t∈ts,rk t.2.1<rk t.2.2.1)/\∀ z,rk z<N
 IX:N<=1000
 many:ts.length<=1000
section
variable {c:Cl}
inductive uk:Ä
 |mk {ts:List IJ}{U:Int->Bool}{h g:Str}{m N:Nat}:Parts ts N->Wy.Flow ts U h g m->m<=1000->uk [bL (ts.filter λt=>U t.1),.str h,.str g,.int m] (tb (gJ h g N m (ts.filter λt=>U t.1)))
noncomputable abbrev fc:Stmt:=top 79
theorem Lc:ae ["ties","home","listener","many","told","left","way"] ü (a8 fc):=IM
theorem oj (F:Iy K "parted_ways" "parted_ways" fc f fd)(T:jB mg)(Nb:Df P w K mg base 2 "one_way" Ĉ (Pr MR)):HP P w K mg base Ik 3 f fd ü (Pr uk):=by
 have ND:=Lc.nd;refine F.dv Lc ?_ λHU A outer s H E hr=>(qC (qO (pS 4 ND<|d7 HS) λ_ _ _ h=>h)
 (qC (qS (pS 5 ND<|Đ 0) λ_ _ _ h=>h)
 (qC (qW E1 (dT lQ gr (dB b5 aG rfl T.IH boot_len<|da (Đ 4) HS)<|Đ 3)
  (qC (qS (pS 6 ND<|dF Nb hr.m rfl (da (Đ 5)<|da (Đ 1) (da (Đ 2) HS))) λ_ _ _ h=>h)
 (qC (SM (n:=0) (aP (i:=5) ND rfl rfl rfl (cS 1 [6] ["tie","way"]) (ax<|Đ 5)
  (λ_ _ _ _ _=>pC 0)
  (λ_ _ _ _ _=>c6<|Ra (ao hr) (dS (ao hr) (Đ 0)<|dC aa) (Đ 1))
  (λ_ _ _ _ _=>Đ 0)) rfl)
 (q1<|qA (aE<|Pz K Ek Ep Eo aO (pv 4) (a9 (Đ 6) D')) (λ_ _ _ h=>h)))))
 (q1<|qR (Đ 4)))))
 rintro _ _ @⟨ts,U,h,g,m,N,PT,F0,hm⟩;obtain⟨rk,VF,Yj⟩:=PT.rk;refine⟨rfl,.inl<|.nx ⟨⟨rfl,by simp,rfl⟩⟩ (.nx ⟨rfl⟩ ?_)⟩;refine g6 (b:=(m,U,[])) (λb ε=>Wy.Flow ts b.2.1 h g b.1/\b.2.2.length+b.1=m/\b.2.2++gJ h g N b.1 (ts.filter λt=>b.2.1 t.1)=gJ h g N m (ts.filter λt=>U t.1)/\∃ o,ε=[.fz<|bL (ts.filter λt=>U t.1),.fz<|.str h,.fz<|.str g,.fz<|.int m,.ow<|tb b.2.2,.fz<|bL (ts.filter λt=>b.2.1 t.1),o]) (·.1) ⟨F0,by simp,rfl,_,rfl⟩ λgR ε SW=>?_;obtain⟨n,Ui,dn⟩:=gR;obtain⟨F2,hs,eP,o,he⟩:=SW;dsimp only at F2 hs eP he;subst he;have rd:=lt_int (ε:=[some<|bL (ts.filter λt=>U t.1),some<|.str h,some<|.str g,some<|.int m,some<|tb dn,some<|bL (ts.filter λt=>Ui t.1),o.a]) (ra:=rF M0<|rA (rV 4) Of) (rb:=rV 3) ⟨⟨rfl,rfl⟩,M0.m⟩ rfl
 cases n with
 | zero=>
  rw[DQ<|by omega]at rd;exact .inl ⟨rd,rfl,by rw[<- eP];rw[show gJ h g N 0 _=[] from rfl,El]⟩
 | succ n=>
  rw[DM<|by omega]at rd;have W:=tu VF F2 (by omega) Yj N h [] (.nil h) (by omega);rw[EW]at W;have up:=W.up λt ht=>VF t (DY.mp ht).1;have hgN:=Yj g;have IX:=PT.IX;have hz:(cZ (ts.filter λt=>Ui t.1) g N h).length<=1000:=by omega
  have F3:=F2.without PT.nd W<|oC PT.nd (λt ht=>(DY.mp<|W.sub t ht).1) up.2.2;rw[show ((n+1:Nat):Int) - 1=(n:Int) by omega]at F3;have ef:(ts.filter λt=>Ui t.1).filter (λt=>!decide (t.1∈aS (cZ (ts.filter λt=>Ui t.1) g N h)))=ts.filter λt=>Wy.without Ui (aS<|cZ (ts.filter λt=>Ui t.1) g N h) t.1:=by rw[List.filter_filter];refine HI λt _=>?_;unfold Wy.without;rw[Bool.and_comm]
  have eP:dn++aS (cZ (ts.filter λt=>Ui t.1) g N h)::gJ h g N n ((ts.filter λt=>Ui t.1).filter λt=>!decide (t.1∈aS (cZ (ts.filter λt=>Ui t.1) g N h)))=gJ h g N m (ts.filter λt=>U t.1):=eP;have c1:=MR.mk W hz;generalize aS (cZ (ts.filter λt=>Ui t.1) g N h)=ks at c1 F3 eP ef;rw[ef]at eP;refine .inr ⟨rd,(n,Wy.without Ui ks,dn++[ks]),_,.nx ⟨⟨rfl,rfl,rfl,rfl⟩,c1⟩<|.nx ⟨bh (λt=>!decide (t.1∈ks)) ⟨rfl,.l .lst⟩ (Ei (Eh _ _) PT.many) λt _=>⟨_,rfl,⟨⟨rfl,rfl,.t rfl⟩,rfl,kg⟩,λ_=>rfl⟩⟩ ⟨rfl,by rw[DH];omega,.z rfl⟩,⟨F3,by simp;omega,by rw[Ez];exact eP,.fz<|rw ks,?_⟩,EX _⟩;dsimp only;rw[ef,show tb (dn++[ks])=.lst (dn.map rw++[rw ks]) from congrArg D.lst DP];rfl
theorem MQ.mono (h:MQ cm n s):∀ {m:Nat},n<=m->MQ cm m s:=by
 induction h with
 | done=>exact λ_=>.done
 | step h1 _ ih=>exact λ{m} hm=>by obtain⟨k,rfl⟩:∃ k,m=k+1:=⟨m - 1,by omega⟩;exact .step h1 (ih<|by omega)
theorem xX (C:JZ ts U h cm):∀ post:Cm Str,(keys (cm++post)).Nodup->∀ y∈keys cm,∃ s,(cm++post).find? (λq=>decide (q.1=y))=some (y,s)/\MQ (cm++post) cm.length s:=by
 induction C with
 | one=>exact λpost nd y hy=>by rw[E5.mp hy];exact⟨none,(kM nd rfl (pre:=[])).1,.done⟩
 | @snoc cs x y t C hx ht hs hy ih=>
  intro post nd z hz;rw[Ez]at nd ⊢;have ih:=ih _ nd;rw[aY]at hz;rw[DT];rcases Ea.mp hz with hz|hz
  ·obtain⟨s,h1,h2⟩:=ih z hz;exact⟨s,h1,h2.mono<|Nat.le_add_right _ _⟩
  ·rw[E5.mp hz];obtain⟨s,h1,h2⟩:=ih x hx;exact⟨some _,(kM nd rfl).1,.step h1 h2⟩
theorem uE (c:Cm Str):∀ (n:Nat)(U:Ξ)(s:Option (Int×Str)),(gK c n U s).length<=U.length+n
 | 0,U,_=>DV _
 | n+1,U,none=>Nat.le_add_right _ _
 | n+1,U,some s=>by have h1:=uE c n (PL U s.1)<|cw c s.2;have h2:=yf U s.1;unfold gK;omega
structure R5 (S:NS) (fo:Λ) (N:Nat):Prop where
 parts:Parts (aZ S.HM fo) N
 ends:d8 (aZ S.HM fo) S.names
 nn:S.names.Nodup
 hN:S.names.length<=N
 tl:S.HM.length<=1000
 pl:S.names.length<=900
noncomputable def uC:Sum Ξ Θ->D
 | .inl ks=>.tup [.str "cut",rw ks]
 | .inr MT=>.tup [.str "ways",tb MT]
noncomputable def bx (ts:List IJ)(ho:Option Str)(g:Str)(N m:Nat):Sum Ξ Θ:=match ho with
 | none=>.inl []
 | some h=>match dD ts (some h) g N m [] with
  | .inl ks=>.inl ks
  | .inr U=>.inr (gJ h g N m (ts.filter λt=>JH U t.1))
inductive fJ:Ä
 |mk {nm:η}{ts:List IJ}:nm.Nodup->nm.length<=900->ts.length<=1000->d8 ts nm->(∀ t∈ts,t.2.1≠t.2.2.1)->fJ [bI nm,bL ts] (gT nm ts)
inductive KC (c:Cl):Ä
 |mk {S:NS}{g:Str}{m N:Nat}{fo:Λ}:R5 S fo N->g∈S.J8->1<=m->m<=1000->m * N+N<=1000->KC c [aI c S,.str g,.int m,Og fo] (uC (bx (aZ S.HM fo) (S.Ji.map (·.1)) g N m))
end
structure Dy (mg:Ω):Prop where
 Ir:mg "range"=none
section
variable {P:É}{w:World}{K:Ψ}{mg:Ω}{base:Heap}{c:Cl}{f:Addr}{fd:È}
theorem BY (ts:List IJ):Ah ts []=[]:=by unfold Ah rS aS;rw[ET.mpr λt _=>by unfold xU;simp[keys]];rfl
noncomputable abbrev wV:Stmt:=top 80
theorem Qg:ae ["net","listener","many","fallen","home","ties","touching","used","turn","came"] ä (a8 wV):=IM
theorem yC (F:JU K "ways" "ways" wV f fd)(T:jB mg)(TR:mg "range"=none)(HN:Dm P w K mg base 2 c.IU "listeners" Þ (Pr (bB c)))(IT:Dm P w K mg base 2 c.IU "home" Þ (Pr (wG c)))(Kn:Dm P w K mg base 1 c.IU "names" Þ (Pr (y8 c)))
  (Jf:Df P w K mg base 2 "standing_ties" ["net","fallen"] (Pr (lE c))) (Jk:Df P w K mg base 1 "ties_by_post" ["names","ties"] (Pr fJ)) (Jm:Df P w K mg base 2 "reached_from" Ċ (Pr Lq))
  (Kl:Df P w K mg base 1 "used_with" ĉ (Pr jC)) (Jl:Df P w K mg base 1 "ties_between" ["ties","came"] (Pr fK)) (Jy:Df P w K mg base 3 "parted_ways" ü (Pr uk)):HP P w K mg base Ik 4 f fd ä (Pr (KC c)):=by
 have ND:=Qg.nd;have T:Dy mg:=⟨TR⟩
 refine JU.dv F Qg ?_ λHU A outer s H E hr=>(qC (qI (Ra (ao hr) (Đ 1)<|gO (Đ 0) HN hr.m)
  (q1 qN)
  q0)
 (qC (qS (pS 4 ND<|gO (Đ 0) IT hr.m) λ_ _ _ h=>h)
 (qC (qS (pS 5 ND<|dF Jf hr.m rfl (da (Đ 0)<|da (Đ 3) HS)) λ_ _ _ h=>h)
 (qC (qS (pS 6 ND<|dF Jk hr.m rfl (da (gO (Đ 0) Kn hr.m)<|da (Đ 5) HS)) λ_ _ _ h=>h)
 (qC (qS (pS 7 ND Z'.p) λ_ _ _ h=>h)
 (qC (qL E1 rfl (QN rfl T.Ir<|da (Đ 2) HS) (pN 8 ND) (aN 8)
  (qC (qS (pS 9 ND<|dF Jm hr.m rfl (da (Đ 4)<|da (Đ 6) (da (Đ 7) HS))) λ_ _ _ h=>h)
 (qC (qI (Ra (ao hr) (Đ 1)<|Đ 9)
  (q1<|qR (mM<|da (dC bX) (da (dF Jl hr.m rfl<|da (Đ 5) (da (Đ 9) HS)) HS)))
  q0)
 (q1<|qS (pS 7 ND<|dF Kl hr.m rfl (da (Đ 7)<|da (Đ 9) (da (Đ 1) HS))) (λ_ _ _ h=>h)))))
 (q1 (qR (mM (da (dC bX) (da (dF Jy hr.m rfl (da (Od 0 rfl (cS 1 [7] ["tie","used"]) (ax<|Đ 5)
  (λ_ _ _ _ _=>pC 0)
  (λ_ _ _ _ _=>c6<|TC (ao hr) (dS (ao hr) (Đ 0)<|dC aa) (Đ 1))
  (λ_ _ _ _ _=>Đ 0))<|da (Đ 4) (da (Đ 1)<|da (Đ 2) HS))) HS)))))))))))
 rintro _ _ @⟨S,g,m,N,fo,O,hg,Uj,hm,hz⟩;have pl:S.Ia.length<=900:=by have:=O.pl;unfold NS.names at this;rwa [DH]at this
 have Pp:=O.parts.many;obtain⟨rk,VF,Yj⟩:=O.parts.rk;have inl:=mX (n:=true) (i:=g) (ks:=S.J8);rw[DM hg]at inl;have En:=O.ends;have Pt:=O.parts;refine⟨rfl,.inl<|.nx (.f ⟨rfl,⟨rfl,rfl,by decide,⟨by omega⟩⟩,inl⟩ rfl) (.nx ⟨rfl,rfl,by decide,⟨⟩⟩<|.nx ⟨⟨rfl,rfl,rfl⟩,⟨O.tl⟩⟩ (.nx ⟨⟨⟨rfl,rfl,by decide,⟨⟩⟩,rfl,rfl⟩,⟨O.nn,O.pl,Pp,En,λt ht z=>by have:=VF t ht;rw[z]at this;omega⟩⟩ (.nx ⟨rfl⟩ ?_)))⟩;generalize aZ S.HM fo=ts at Pp VF En Pt;unfold bx
 cases hh:S.Ji with
 | none=>
  refine AJ (List.range m) (u:=λ(j:Nat)=>.int (j:Int)) (λi ε=>i=0/\∃ o8 o9,ε=[.fz<|aI c S,.fz<|.str g,.fz<|.int m,.fz<|Og fo,.fz .non,.fz<|bL ts,.fz<|gT S.names ts,.fz<|bT [],o8,o9]) ⟨rfl,_,_,rfl⟩ ⟨m,hm,⟨rfl,rfl⟩,(bt _).symm⟩ (λi x ε hx gR=>?_) λε gR=>by obtain⟨h,_⟩:=gR;rw[Er]at h;omega
  obtain⟨hi,o8,o9,he⟩:=gR;subst he;refine⟨_,rfl,.inl ⟨_,.nx ⟨⟨rfl,rfl,rfl,rfl⟩,.n⟩<|.rt (.t ⟨rfl,rfl,.k rfl kS rfl⟩ ⟨⟨⟨rfl,⟨⟨rfl,rfl,rfl⟩,⟨Pp⟩⟩,rfl⟩,by simp,rfl⟩,rfl⟩),?_⟩⟩;rw[BY];rfl
 | some q=>
  have hq:q.1∈S.names:=DS<|ED hh;refine AJ (List.range m) (u:=λ(j:Nat)=>.int (j:Int)) (λi ε=>∃ Ui o8 o9,ε=[.fz<|aI c S,.fz<|.str g,.fz<|.int m,.fz<|Og fo,.fz<|.str q.1,.fz<|bL ts,.fz<|gT S.names ts,.fz<|bT Ui,o8,o9]/\Ui.Nodup/\Ui.length<=i * N/\Wy.Flow ts (JH Ui) q.1 g i/\dD ts (some q.1) g N m []=dD ts (some q.1) g N (m - i) Ui) ⟨[],_,_,rfl,Ft,EE _,Flow.none ts q.1 g,rfl⟩ ⟨m,hm,⟨rfl,rfl⟩,(bt _).symm⟩ (λi x ε hx gR=>?_) λε gR=>?_
  ·obtain⟨Ui,o8,o9,he,nd,ul,Fi,eW⟩:=gR;subst he;obtain⟨rfl,hi⟩:=jU hx;rw[show m - i=m - (i+1)+1 by omega,j3]at eW;have R:=uV (ts:=ts) (U:=JH Ui) En hq O.hN;have c1:=Lq.s (U:=Ui) En hq O.nn O.hN O.pl;generalize eK ts (JH Ui) N (some q.1)=cc at eW R c1;have ccl:cc.length<=N:=by have:=fZ R.La.nd<|R.La.names En hq;have e:(keys cc).length=cc.length:=DH _;have:=O.hN;omega
   have i1:i * N+N<=m * N:=by rw[<- Nat.succ_mul];exact Nat.mul_le_mul_right _ hi
   refine⟨_,rfl,?_⟩;by_cases WH:g∈keys cc
   ·rw[if_pos WH]at eW;obtain⟨F',ZO⟩:=qi Pt.nd R.La Fi WH nd ccl;obtain⟨s,h1,h2⟩:=xX R.La [] (by rw[El];exact R.La.nd) g WH;rw[El]at h1 h2;have es:cw cc g=s:=by unfold cw;rw[h1];rfl
    have ul':=uE cc N Ui s;rw[es]at F' ZO eW;exact .inr ⟨_,.nx ⟨⟨rfl,rfl,rfl,rfl⟩,c1⟩<|.nx (.f ⟨rfl,rfl,.k rfl kS (by rw[eo,DM WH];rfl)⟩ rfl) ⟨⟨rfl,rfl,rfl,rfl⟩,⟨h1,h2.mono ccl,nd,by omega⟩⟩,gK cc N Ui s,.fz<|.int i,.fz<|eY cc,rfl,ZO,by rw[Nat.succ_mul];omega,by rw[show ((i+1:Nat):Int)=(i:Int)+1 by omega];exact F',eW⟩
   ·rw[if_neg WH]at eW;exact .inl ⟨_,.nx ⟨⟨rfl,rfl,rfl,rfl⟩,c1⟩<|.rt (.t ⟨rfl,rfl,.k rfl kS (by rw[eo,DQ WH];rfl)⟩ ⟨⟨⟨rfl,⟨⟨rfl,rfl,rfl⟩,⟨Pp⟩⟩,rfl⟩,by simp,rfl⟩,rfl⟩),by show Fl.rt (uC (match dD ts (some q.1) g N m [] with|.inl ks=>.inl ks|.inr U=>.inr _))=_;rw[eW];rfl⟩
  ·obtain⟨Ui,o8,o9,he,nd,ul,Fi,eW⟩:=gR;subst he;rw[Er,Nat.sub_self]at eW;rw[Er]at Fi;have eW:dD ts (some q.1) g N m []=.inr Ui:=eW;refine⟨⟨⟨rfl,⟨⟨bh (xs:=ts) (u:=bO) (h:=bO) (λt=>JH Ui t.1) ⟨rfl,.l .lst⟩ Pp λt _=>⟨_,rfl,⟨⟨rfl,rfl,.t rfl⟩,rfl,.k rfl kI (by rw[fP];rfl)⟩,λ_=>rfl⟩,rfl,rfl,rfl,rfl⟩,⟨Pt,Fi,hm⟩⟩,rfl⟩,by simp,rfl⟩,?_⟩;show Fl.rt (uC (match dD ts (some q.1) g N m [] with|.inl ks=>.inl ks|.inr U=>.inr _))=_;rw[eW];rfl
end
end K92
namespace Mk
open Mx
theorem u8 (hP:My.JK p=true)(h:p ∣ a * b):p ∣ a\/p ∣ b:=by
 have h2:=((My.HY p).mp hP).1;by_cases c:p ∣ a
 ·exact .inl c
 ·have h0:0<a % p:=by omega
  obtain⟨k,hk⟩:=My.O2 hP _ h0<|EC _ (by omega);obtain⟨j,hj⟩:=h;refine .inr ⟨My.bk p (a % p) * j - My.bk p (a % p) * (a / p) * b - k * b,?_⟩;have e:=FA a p;generalize My.bk p _=z at *
  generalize a % p=r at *
  generalize a / p=q at *
  grind
theorem jy {q:α->Bool}:∀ {l:List α},l.Nodup->(∀ x∈l,∀ y∈l,q x=true->q y=true->x=y)->l.length<=(l.filter λx=>!q x).length+1
 | [],_,_=>by simp
 | a::l,nd,h=>by
  rw[Ex]at nd
  cases c:q a with
  | false=>
   rw[EZ,c];have:=jy nd.2 λx hx y hy=>h x (by simp[hx]) y (by simp[hy]);simp only[Bool.not_false,if_true,Eu];omega
  | true=>
   have:l.filter (λx=>!q x)=l:=Ht.mpr λx hx=>by
    cases c2:q x with
    | false=>rfl
    | true=>exact absurd (h a (by simp) x (by simp[hx]) c c2▸hx) nd.1
   rw[EZ,c,this];simp
noncomputable def JE (p:Int)(k:Int)(vs ss:Ξ):Bool:=(List.zipWith (λv s=>(k * v+s) % p) vs ss).any λx=>decide (x=0)
theorem yN (hP:My.JK p=true):∀ (vs ss:Ξ)(X:À),X.Nodup->(∀ x∈X,(x:Int)<p)->vs.length<X.length->(∀ v∈vs,¬ p ∣ v)->∃ k∈X,JE p k vs ss=false
 | [],_,x::X,_,_,_,_=>⟨x,by simp,by simp[JE]⟩
 | [],_,[],_,_,h,_=>by simp at h
 | _::_,[],x::X,_,_,_,_=>⟨x,by simp,by simp[JE]⟩
 | _::_,[],[],_,_,h,_=>by simp at h
 | v::vs,s::ss,X,nd,lt,h,nz=>by
  have one:X.length<=(X.filter λ(x:Nat)=>!decide (((x:Int) * v+s) % p=0)).length+1:=jy nd λx hx y hy h1 h2=>by
   have h1:=ER<|DZ h1;have h2:=ER<|DZ h2;have h3:p ∣ ((x:Int) - y) * v:=by
    have:=Gf h1 h2;have e:(x:Int) * v+s - (y * v+s)=(x - y) * v:=by rw[Hm];omega
    rwa [e]at this
   rcases u8 hP h3 with h3|h3
   ·have a1:=lt x hx;have a2:=lt y hy;obtain⟨j,hj⟩:=h3;have hj0:j=0:=by
     rcases Int.lt_trichotomy j 0 with z|z|z
     ·have:p * j<=p * (-1):=Gp (by omega) (by omega);omega
     ·exact z
     ·have:p * 1<=p * j:=Gp (by omega) (by omega);omega
    subst hj0;omega
   ·exact absurd h3 (nz v<|by simp)
  obtain⟨k,hk,hb⟩:=yN hP vs ss (X.filter λ(x:Nat)=>!decide (((x:Int) * v+s) % p=0)) (nd.sublist Gh) (λx hx=>lt x (DY.mp hx).1) (by simp only[Eu]at h;omega) λu hu=>nz u (by simp[hu]);obtain⟨hk1,hk2⟩:=DY.mp hk;refine⟨k,hk1,?_⟩;unfold JE at hb ⊢;rw[List.zipWith_cons_cons,Gz,hb];simpa using hk2
noncomputable def ub (p:Int)(vs ss:Ξ):Nat:=((List.range p.toNat).find? λ(k:Nat)=>!JE p k vs ss).getD 0
theorem Rn (hP:My.JK p=true)(hl:(vs.length:Int)<p)(nz:∀ v∈vs,¬ p ∣ v):JE p (ub p vs ss) vs ss=false/\(∀ j:Nat,j<ub p vs ss->JE p j vs ss=true)/\((ub p vs ss:Nat):Int)<p:=by
 obtain⟨k,hk,hb⟩:=yN hP vs ss (List.range p.toNat) List.nodup_range (λx hx=>by have:=Eg.mp hx;omega) (by rw[Er];omega) nz
 cases hf:(List.range p.toNat).find? λ(k:Nat)=>!JE p k vs ss with
 | none=>
  have:=EU.mp hf k hk;rw[hb]at this;simp at this
 | some u=>
  have e:ub p vs ss=u:=by unfold ub;rw[hf];rfl
  rw[e];obtain⟨h1,i,hi,ei,Kb⟩:=List.find?_eq_some_iff_getElem.mp hf;rw[List.getElem_range]at ei;subst ei;refine⟨by simpa using h1,λj hj=>?_,by rw[Er]at hi;omega⟩;have:=Kb j hj;simpa using this
noncomputable def mO (a b:Int)(x q:Ξ):Ξ:=List.zipWith (λu v=>a * u - b * v) x q
theorem ku (a b:Int):∀ (x q y:Ξ),x.length=q.length->dot (mO a b x q) y=a * dot x y - b * dot q y
 | [],[],y,_=>by simp[mO,dot]
 | [],_::_,y,h=>by simp at h
 | _::_,[],y,h=>by simp at h
 | u::x,v::q,[],_=>by simp[mO,dot]
 | u::x,v::q,w::y,h=>by
  have ih:=ku a b x q y (by simpa using h);show (a * u - b * v) * w+dot (mO a b x q) y=a * (u * w+dot x y) - b * (v * w+dot q y)
  rw[ih]
  grind
theorem Ca (h:x.length=q.length):(mO a b x q).length=x.length:=by unfold mO;rw[Hs,h,Nat.min_self]
structure Ok (p:Int) (m:Nat) (P:Θ) (F:Nat->Ξ):Prop where
 len:P.length=m
 LW:∀ r∈P,r.length=m/\JB p r
 fw:∀ j,j<m->(F j).length=m
 off:∀ i j,i<m->j<m->i≠j->p ∣ dot (P.getD i []) (F j)
 own:∀ i,i<m->¬ p ∣ dot (P.getD i []) (F i)
 sep:∀ x:Ξ,x.length=m->(∀ j,j<m->p ∣ dot x (F j))->∀ y:Ξ,y.length=m->p ∣ dot x y
theorem Ok.start {p:Int}(hp:1<p)(m:Nat):Ok p m (ones m) (HL m) where
 len:=by simp[ones]
 LW:=λr hr=>by obtain⟨i,_,rfl⟩:=DI.mp hr;exact⟨Ic _ _,eS hp _ _⟩
 fw:=λj _=>Ic _ _
 off:=λi j hi hj h=>by
  have e1:(ones m).getD i []=HL m i:=by simp[ones,hi]
  rw[e1,IY _ _ _<|Ic _ _];have:=lB m j i;unfold e at this;rw[this,if_neg<|by omega];exact Int.dvd_zero _
 own:=λi hi=>by
  have e1:(ones m).getD i []=HL m i:=by simp[ones,hi]
  rw[e1,IY _ _ _<|Ic _ _];have:=lB m i i;unfold e at this;intro h;have:=Hf (by omega) h;omega
 sep:=λx hx h y hy=>by
  rw[lC _ _<|by omega];have:∀ n,n<=x.length->p ∣ eI (λj=>e x j * e y j) n:=by
   intro n
   induction n with
   | zero=>intro _;exact Int.dvd_zero _
   | succ n ih=>
    intro hn;have h1:=h n (by omega);rw[IP,IY _ _ _ hx]at h1;exact FT (ih<|by omega) (GO h1)
  exact this _ (DV _)
noncomputable def KL (p:Int)(P:Θ)(w:Nat)(t:Ξ)(i:Nat):Ξ:=
 if i=w\/Ig p (P.getD i []) t=0 then P.getD i [] else List.zipWith (λa b=>(Ig p (P.getD w []) t * a - Ig p (P.getD i []) t * b) % p) (P.getD i []) (P.getD w [])
noncomputable def moved (p:Int)(P:Θ)(w:Nat)(t:Ξ):Θ:=(List.range P.length).map (KL p P w t)
theorem yd (p a b:Int):∀ (x q y:Ξ),p ∣ dot (List.zipWith (λu v=>(a * u - b * v) % p) x q) y - dot (mO a b x q) y
 | [],_,y=>by simp[mO,dot]
 | _::_,[],y=>by simp[mO,dot]
 | u::x,v::q,[]=>by simp[mO,dot]
 | u::x,v::q,w::y=>by
  obtain⟨k,hk⟩:=yd p a b x q y;refine⟨k - (a * u - b * v) / p * w,?_⟩;show (a * u - b * v) % p * w+dot _ y - ((a * u - b * v) * w+dot (mO a b x q) y)=_;have e:=FA (a * u - b * v) p;generalize (a * u - b * v) % p=r at *
  generalize (a * u - b * v) / p=d at *
  rw[<- e]
  grind
theorem Ok.at (h:Ok p m P F)(hi:i<m):(P.getD i []).length=m/\JB p (P.getD i []):=h.LW _ (getD_mem (by rw[h.len];exact hi))
theorem qM (hP:My.JK p=true)(h:Ok p m P F)(hw:w<m)(ht:¬ p ∣ dot (P.getD w []) t)(hi:i<m):
  ∃ a b:Int,¬ p ∣ a/\(i=w->b=0)/\(∀ y,p ∣ dot (KL p P w t i) y - (a * dot (P.getD i []) y - b * dot (P.getD w []) y))/\(i≠w->p ∣ a * dot (P.getD i []) t - b * dot (P.getD w []) t):=by
 have h2:=((My.HY p).mp hP).1;have n1:¬ p ∣ (1):=λz=>by have:=Hf (by omega) z;omega
 unfold KL;by_cases c:i=w\/Ig p (P.getD i []) t=0
 ·rw[if_pos c];refine⟨1,0,n1,λ_=>rfl,λy=>by simp,λz=>?_⟩;rcases c with c|c
  ·exact absurd c z
  ·rw[Iv]at c;simpa using ER c
 ·rw[if_neg c];refine⟨Ig p (P.getD w []) t,Ig p (P.getD i []) t,λz=>?_,λz=>absurd (.inl z) c,λy=>?_,λ_=>?_⟩
  ·rw[Iv]at z;have:=FT z<|Int.dvd_mul_right p (dot (P.getD w []) t / p);rw[FA]at this;exact ht this
  ·have:=yd p (Ig p (P.getD w []) t) (Ig p (P.getD i []) t) (P.getD i []) (P.getD w []) y;rwa [ku _ _ _ _ _<|by rw[(h.at hi).1,(h.at hw).1]]at this
  ·rw[Iv,Iv];generalize dot _ t=u;generalize dot _ t=v;have e1:=FA u p;have e2:=FA v p;refine⟨u % p * (v / p) - v % p * (u / p),?_⟩;generalize u % p=a at *
   generalize v % p=b at *
   generalize u / p=c at *
   generalize v / p=d at *
   grind
theorem vB (hi:i<P.length):(moved p P w t).getD i []=KL p P w t i:=by simp[moved,hi]
theorem Ok.move {p:Int}{m:Nat}{P:Θ}{F:Nat->Ξ} (hP:My.JK p=true) (h:Ok p m P F) {w:Nat} (hw:w<m) {t:Ξ} (hl:t.length=m) (ht:¬ p ∣ dot (P.getD w []) t):
  Ok p m (moved p P w t) (λj=>if j=w then t else F j) where
 len:=by simp[moved,h.len]
 LW:=λr hr=>by
  have h2:=((My.HY p).mp hP).1;obtain⟨i,hi,rfl⟩:=DI.mp hr;have hi:i<m:=by rw[<- h.len];exact Eg.mp hi
  unfold KL;by_cases c:i=w\/Ig p (P.getD i []) t=0
  ·rw[if_pos c];exact h.at hi
  ·rw[if_neg c];refine⟨by rw[Hs,(h.at hi).1,(h.at hw).1,Nat.min_self],λx hx=>?_⟩;obtain⟨k,hk,rfl⟩:=EA.mp hx;rw[Hk];exact⟨EM _<|by omega,EC _<|by omega⟩
 fw:=λj hj=>by
  by_cases c:j=w
  ·rw[if_pos c,hl]
  ·rw[if_neg c,h.fw j hj]
 off:=λi j hi hj n=>by
  rw[vB (by rw[h.len];exact hi)];obtain⟨a,b,na,hb,hd,hz⟩:=qM hP h hw ht hi;by_cases c:j=w
  ·rw[if_pos c];have h1:=hd t;have h2:=hz λz=>n<|z.trans c.symm;have:=FT h1 h2;simpa using this
  ·rw[if_neg c];have h1:=hd<|F j;have h2:=EN (b:=a)<|h.off i j hi hj n;have h3:=EN (b:=b)<|h.off w j hw hj (Ne.symm c);have:=FT h1<|Gf h2 h3;simpa using this
 own:=λi hi=>by
  rw[vB (by rw[h.len];exact hi)];obtain⟨a,b,na,hb,hd,hz⟩:=qM hP h hw ht hi;intro z;by_cases c:i=w
  ·rw[if_pos c]at z;have h1:=hd t;rw[hb c,Hx,Int.sub_zero]at h1;have h2:=Gf z h1;rw[Int.sub_sub_self]at h2;rcases u8 hP h2 with q|q
   ·exact na q
   ·rw[c]at q;exact ht q
  ·rw[if_neg c]at z;have h1:=hd<|F i;have h3:=EN (b:=b)<|h.off w i hw hi (Ne.symm c);have h2:=FT (Gf z h1) h3;rw[Int.sub_sub_self,Int.sub_add_cancel]at h2;rcases u8 hP h2 with q|q
   ·exact na q
   ·exact h.own i hi q
 sep:=λx hx hk y hy=>by
  have lw:=(h.at hw).1;have h1:=h.sep (mO (dot _<|F w) (dot x<|F w) x<|P.getD w []) (by rw[Ca<|by omega,hx]) λj hj=>by
   rw[ku _ _ _ _ _<|by omega];by_cases c:j=w
   ·subst c;rw[Fv,Int.sub_self];exact Int.dvd_zero _
   ·have h2:=hk j hj;rw[if_neg c]at h2;exact Gf (EN h2) (EN<|h.off w j hw hj (Ne.symm c))
  have h2:=h1 t hl;rw[ku _ _ _ _ _<|by omega]at h2;have h3:=hk w hw;rw[if_pos rfl]at h3;have h4:p ∣ dot x (F w) * dot (P.getD w []) t:=by have:=Gf (EN (b:=dot (P.getD w [])<|F w) h3) h2;rwa [Int.sub_sub_self]at this
  refine h.sep x hx (λj hj=>?_) y hy;by_cases c:j=w
  ·rw[c];rcases u8 hP h4 with q|q
   ·exact q
   ·exact absurd q ht
  ·have:=hk j hj;rwa [if_neg c]at this
abbrev Ask:=Nat×Nat×Int
noncomputable def RC (p:Int)(mixed:Ξ)(A:List Ask)(s:Ask->Int->Int)(T:List Int×Ξ)(h o:Int):List Int×Ξ:=
 (List.zipWith (λk a=>(o * a+if k=h then 1 else 0) % p) mixed T.1,List.zipWith (λv x=>(o * v+x) % p) T.2 (A.map λb=>s b h))
noncomputable def MF (p:Int)(mixed:Ξ)(A:List Ask)(s:Ask->Int->Int)(T:List Int×Ξ)(n:Nat):List Int×Ξ:=
 if T.2.getD n 0≠0 then T else RC p mixed A s T (A.getD n (0,0,0)).2.2 (ub p (T.2.take n) (A.map λb=>s b (A.getD n (0,0,0)).2.2))
noncomputable def MZ (p:Int)(mixed:Ξ)(A:List Ask)(s:Ask->Int->Int):Nat->List Int×Ξ
 | 0=>(List.replicate mixed.length 0,List.replicate A.length 0)
 | n+1=>MF p mixed A s (MZ p mixed A s n) n
noncomputable abbrev PY (p:Int)(mixed:Ξ)(A:List Ask)(s:Ask->Int->Int):Ξ:=(MZ p mixed A s A.length).1
structure P2 (p:Int) (mixed:Ξ) (A:List Ask) (s:Ask->Int->Int):Prop where
 prime:My.JK p=true
 IX:(A.length:Int)<=p
 nd:mixed.Nodup
 ahead:∀ a∈A,a.2.2∈mixed
 own:∀ a∈A,¬ p ∣ s a a.2.2
structure Uy (p:Int) (mixed:Ξ) (A:List Ask) (s:Ask->Int->Int) (n:Nat) (T:List Int×Ξ):Prop where
 l1:T.1.length=mixed.length
 l2:T.2.length=A.length
 f1:JB p T.1
 f2:JB p T.2
 val:∀ (i:Nat) a,A[i]?=some a->p ∣ T.2.getD i 0 - dot T.1 (mixed.map (s a))
 nz:∀ i,i<n->T.2.getD i 0≠0
theorem yP (hp:0<p)(f:α->β->Int)(x:List α)(y:List β):JB p (List.zipWith (λa b=>f a b % p) x y):=λz hz=>by obtain⟨k,hk,rfl⟩:=EA.mp hz;rw[Hk];exact⟨EM _<|by omega,EC _ hp⟩
theorem w4 {p a:Int}:p ∣ a % p - a:=⟨-(a / p),by have:=FA a p;rw[Int.mul_neg];omega⟩
theorem w8 (p o h:Int)(f:Int->Int):∀ (mixed told:Ξ),told.length=mixed.length->mixed.Nodup->p ∣ dot (List.zipWith (λk a=>(o * a+if k=h then 1 else 0) % p) mixed told) (mixed.map f) - (o * dot told (mixed.map f)+if h∈mixed then f h else 0)
 | [],[],_,_=>by simp[dot]
 | [],_::_,e,_=>by simp at e
 | _::_,[],e,_=>by simp at e
 | k::mixed,a::told,e,nd=>by
  rw[Ex]at nd;obtain⟨j,hj⟩:=w8 p o h f mixed told (by simpa using e) nd.2;obtain⟨i,hi⟩:=@w4 p (o * a+if k=h then 1 else 0);refine⟨j+i * f k,?_⟩;show (o * a+if k=h then 1 else 0) % p * f k+dot _ (mixed.map f) - (o * (a * f k+dot told (mixed.map f))+if h∈k::mixed then f h else 0)=_;have e1:(if h∈k::mixed then f h else 0)=(if k=h then 1 else 0) * f k+if h∈mixed then f h else 0:=by
   by_cases c:k=h
   ·subst c;simp[nd.1]
   ·simp[c,Ne.symm c]
  rw[e1];generalize (o * a+if k=h then 1 else 0) % p=r at *
  generalize (if k=h then (1:Int) else 0)=u at *
  generalize (if h∈mixed then f h else 0)=v at *
  have:r=o * a+u+p * i:=by omega
  subst this
  grind
theorem MM (hp:0<p)(h:JB p r)(i:Nat):0<=r.getD i 0/\r.getD i 0<p:=JB.at hp h i
theorem PX {p:Int}{mixed:Ξ}{A:List Ask}{s:Ask->Int->Int} (h:P2 p mixed A s):∀ n,n<=A.length->Uy p mixed A s n (MZ p mixed A s n)
 | 0,_=>by
  have h2:=((My.HY p).mp h.prime).1;refine⟨by simp[MZ],by simp[MZ],λx hx=>?_,λx hx=>?_,λi a ha=>?_,λi hi=>absurd hi<|Ho _⟩
  ·have:=F5 hx;omega
  ·have:=F5 hx;omega
  ·have z:∀ (n:Nat)(y:Ξ),dot (List.replicate n 0) y=0:=λn=>by
    induction n with
    | zero=>intro y;rfl
    | succ n ih=>
     intro y
     cases y with
     | nil=>rfl
     | cons b y=>show 0 * b+dot (List.replicate n 0) y=0;rw[ih];omega
   show p ∣ (List.replicate A.length (0:Int)).getD i 0 - dot (List.replicate mixed.length 0) _;rw[z,DG,List.getElem?_replicate_of_lt (DJ.mp ha).1];simp
 | n+1,hn=>by
  have h2:=((My.HY p).mp h.prime).1;have p0:0<p:=by omega
  have I:=PX h n (by omega);show Uy p mixed A s (n+1) (MF p mixed A s (MZ p mixed A s n) n);generalize MZ p mixed A s n=T at I;unfold MF;by_cases c:T.2.getD n 0≠0
  ·rw[if_pos c];refine { I with nz:=λi hi=>?_ };by_cases e:i=n
   ·rw[e];exact c
   ·exact I.nz i (by omega)
  ·rw[if_neg c];have c:T.2.getD n 0=0:=Classical.not_not.mp c;have ea:A[n]?=some A[n]:=DF (by omega);have eg:A.getD n (0,0,0)=A[n]:=by rw[DG,ea];rfl
   have am:A[n]∈A:=EB _;rw[eg];generalize ha:A[n]=a at *
   have sl:(A.map λb=>s b a.2.2).length=A.length:=by simp
   obtain⟨u1,_,_⟩:=Rn h.prime (vs:=T.2.take n) (ss:=A.map λb=>s b a.2.2) (by rw[E4];have:=h.IX;omega) λv hv=>by obtain⟨i,hi,rfl⟩:=EA.mp hv;rw[List.getElem_take];rw[E4]at hi;have:=I.nz i (by omega);have f:=MM p0 I.f2 i;rw[DG,DF<|by omega]at this f;intro z;have:=Hf (by have h1:T.2[i]≠0:=this;have h3:0<=T.2[i]/\T.2[i]<p:=f;omega) z;have h3:0<=T.2[i]/\T.2[i]<p:=f;omega
   generalize (ub p (T.2.take n) (A.map λb=>s b a.2.2):Int)=o at *
   have vat:∀ i b,A[i]?=some b->(List.zipWith (λv x=>(o * v+x) % p) T.2<|A.map λb=>s b a.2.2).getD i 0=(o * T.2.getD i 0+s b a.2.2) % p:=λi b hb=>by have hi:=(DJ.mp hb).1;rw[DG,Fm,DN,hb,DG,DF (by rw[I.l2];exact hi)];rfl
   unfold RC;refine⟨by simp[I.l1],by simp[I.l2],yP p0 _ _ _,yP p0 _ _ _,λi b hb=>?_,λi hi=>?_⟩ <;> dsimp only
   ·rw[vat i b hb];obtain⟨x,hx⟩:=I.val i b hb;obtain⟨y,hy⟩:=w8 p o a.2.2 (s b) mixed T.1 I.l1 h.nd;rw[if_pos<|h.ahead a am]at hy;obtain⟨z,hz⟩:=@w4 p (o * T.2.getD i 0+s b a.2.2);refine⟨z+o * x - y,?_⟩;generalize (o * T.2.getD i 0+s b a.2.2) % p=q at *
    generalize dot (List.zipWith _ mixed T.1) (mixed.map<|s b)=w at *
    generalize dot T.1 (mixed.map<|s b)=d at *
    have e1:T.2.getD i 0=d+p * x:=by omega
    rw[e1]at hz;have e2:q=o * (d+p * x)+s b a.2.2+p * z:=by omega
    have e3:w=o * d+s b a.2.2+p * y:=by omega
    rw[e2,e3]
    grind
   ·by_cases e:i=n
    ·subst e;rw[vat i a<|by rw[ea],c];intro z;have:=ER z;rw[Int.mul_zero,Int.zero_add]at this;exact h.own a am this
    ·have OU:i<A.length:=by omega
     rw[vat i A[i]<|DF OU];intro z;have:JE p o (T.2.take n) (A.map λb=>s b a.2.2)=true:=by unfold JE;rw[List.any_eq_true];refine⟨0,Fj.mpr ⟨i,?_⟩,by simp⟩;rw[Fm,EK<|by omega,DN,DF OU,DF (by rw[I.l2];exact OU)];rw[DG,DF (by rw[I.l2];exact OU)]at z;exact congrArg some z
     rw[this]at u1
     cases u1
theorem Qn (h:P2 p mixed A s):(PY p mixed A s).length=mixed.length/\JB p (PY p mixed A s)/\∀ a∈A,¬ p ∣ dot (PY p mixed A s) (mixed.map (s a)):=by have h2:=((My.HY p).mp h.prime).1;have I:=PX h _<|DV _;refine⟨I.l1,I.f1,λa ha z=>?_⟩;obtain⟨i,hi,e⟩:=EA.mp ha;have h1:=FT (I.val i a<|by rw[DF hi,e]) z;rw[Int.sub_add_cancel]at h1;have f:=MM (by omega) I.f2 i;have:=I.nz i hi;have:=Hf (by omega) h1;omega
abbrev J1:=Int×Λ
abbrev IB:=Nat×Θ
noncomputable def st (w:Nat):Int:=-1 - (w:Int)
noncomputable def LR (e w:Nat)(way:Ξ):List (Int×Ask):=(way.zip (st w::way)).map λq=>(q.1,e,w,q.2)
noncomputable def JR (e:Nat)(ways:Θ):List (Int×Ask):=ways.zipIdx.flatMap λx=>LR e x.2 x.1
noncomputable def JS (ê:List IB):List (Int×Ask):=ê.zipIdx.flatMap λx=>JR x.2 x.1.2
noncomputable def pick (L:List (Int×Ask))(k:Int):List Ask:=(L.filter λx=>decide (x.1=k)).map (·.2)
noncomputable abbrev ID (ê:List IB)(k:Int):List Ask:=pick (JS ê) k
theorem fB:∀ (way:Ξ)(s:Int),(k,a)∈way.zip (s::way) ↔ ∃ l r,way=l++k::r/\a=l.getLast?.getD s
 | [],s=>by simp
 | b::way,s=>by
  rw[HB,E3,fB way b];constructor
  ·rintro (h|⟨l,r,rfl,rfl⟩)
   ·cases h;exact⟨[],way,rfl,rfl⟩
   ·exact⟨b::l,r,rfl,by rw[List.getLast?_cons];rfl⟩
  ·rintro⟨l,r,e,rfl⟩
   cases l with
   | nil=>cases e;exact .inl rfl
   | cons c l=>
    cases e;exact .inr ⟨l,r,rfl,by rw[List.getLast?_cons];rfl⟩
theorem NZ {e:Nat}:(k,a)∈LR e w way ↔ ∃ l r,way=l++k::r/\a=(e,w,l.getLast?.getD (st w)):=by
 unfold LR;rw[DI];constructor
 ·rintro⟨⟨k',h⟩,hm,z⟩
  cases z;obtain⟨l,r,h1,h2⟩:=(fB way _).mp hm;exact⟨l,r,h1,by rw[h2]⟩
 ·rintro⟨l,r,h1,rfl⟩;exact⟨_,(fB way _).mpr ⟨l,r,h1,rfl⟩,rfl⟩
theorem Lo:(k,a)∈JS ê ↔ ∃ Ih way,ê[a.1]?=some Ih/\Ih.2[a.2.1]?=some way/\∃ l r,way=l++k::r/\a.2.2=l.getLast?.getD (st a.2.1):=by
 unfold JS JR;rw[FE];constructor
 ·rintro⟨⟨Ih,e⟩,he,h⟩;obtain⟨⟨way,w⟩,hw,h⟩:=FE.mp h;obtain⟨l,r,h1,h2⟩:=NZ.mp h;have he:=ES.mp he;have hw:=ES.mp hw;subst h2;exact⟨Ih,way,he,hw,l,r,h1,rfl⟩
 ·rintro⟨Ih,way,he,hw,l,r,h1,h2⟩;refine⟨(Ih,a.1),ES.mpr he,FE.mpr ⟨(way,a.2.1),ES.mpr hw,NZ.mpr ⟨l,r,h1,?_⟩⟩⟩;obtain⟨e,w,b⟩:=a;have h2:b=_:=h2;rw[h2]
theorem Lm:a∈pick L k ↔ (k,a)∈L:=by
 unfold pick;rw[DI];constructor
 ·rintro⟨⟨k',b⟩,h,rfl⟩;obtain⟨h1,h2⟩:=DY.mp h;have:k'=k:=by simpa using h2
  rw[<- this];exact h1
 ·intro h;exact⟨(k,a),DY.mpr ⟨h,by simp⟩,rfl⟩
theorem Oq (e w:Nat)(way:Ξ):(LR e w way).map (·.1)=way:=by unfold LR;rw[DL];show (way.zip _).map (·.1)=way;rw[List.map_fst_zip<|by simp]
theorem OF (e:Nat)(ways:Θ):(JR e ways).map (·.1)=ways.flatten:=by unfold JR;rw[List.map_flatMap];have:(λx:List Int×Nat=>(LR e x.2 x.1).map _)=λx=>x.1:=funext λx=>Oq _ _ _;rw[this,List.flatMap_def,List.zipIdx_map_fst]
theorem NH (h:∀ Ih∈ê,Ih.2.flatten.Nodup)(k:Int):((ID ê k).map (·.1)).Nodup:=by
 have pw:(JS ê).Pairwise λx y=>x.1=y.1->x.2.1≠y.2.1:=by
  unfold JS;rw[List.pairwise_flatMap];refine⟨λx hx=>?_,?_⟩
  ·have h1:=h x.1<|DO (ES.mp hx);rw[<- OF x.2]at h1;exact (G9.mp h1).imp λn z=>absurd z n
  ·have key:∀ (x:IB×Nat)(a:Int×Ask),a∈JR x.2 x.1.2->a.2.1=x.2:=λx a ha=>by obtain⟨q,_,h2⟩:=FE.mp ha;obtain⟨_,_,_,e⟩:=NZ.mp h2;rw[e]
   have hn:(ê.zipIdx.map (·.2)).Nodup:=by rw[List.zipIdx_map_snd];exact List.nodup_range'
   refine (G9.mp hn).imp λ{x y} n a ha b hb _ z=>n ?_;rw[<- key x a ha,<- key y b hb,z]
 unfold ID pick;rw[DL,List.Nodup,G9,List.pairwise_filter];refine pw.imp λ{x y} n hx hy=>n ?_;have hx:x.1=k:=by simpa using hx
 have hy:y.1=k:=by simpa using hy
 rw[hx,hy]
theorem BM:∀ (n:Nat)(X:À),X.Nodup->(∀ x∈X,x<n)->X.length<=n
 | 0,X,_,h=>by
  cases X with
  | nil=>simp
  | cons x X=>exact absurd (h x<|by simp) (Ho _)
 | n+1,X,nd,h=>by
  have h1:=jy (q:=λx=>decide (x=n)) nd λx _ y _ a b=>by have a:=DZ a;have b:=DZ b;omega
  have h2:=BM n (X.filter λx=>!decide (x=n)) (nd.sublist Gh) λx hx=>by obtain⟨a,b⟩:=DY.mp hx;have:=h x a;simp at b;omega
  omega
theorem PD (h:∀ Ih∈ê,Ih.2.flatten.Nodup)(k:Int):(ID ê k).length<=ê.length:=by
 have:=BM _ _ (NH h k) λx hx=>by obtain⟨a,ha,rfl⟩:=DI.mp hx;obtain⟨Ih,_,h1,_⟩:=Lo.mp<|Lm.mp ha;exact (DJ.mp h1).1
 rwa [DH]at this
noncomputable def fr (D:Ξ)(s:Int)(way:Ξ):Int:=((way.filter λk=>decide (k∈D)).getLast?).getD s
theorem kn (nd:(D++k::rest).Nodup)(hs:way.Sublist (D++k::rest))(s:Int):
  (¬ k∈way/\fr (D++[k]) s way=fr D s way)\/∃ l r,way=l++k::r/\fr D s way=l.getLast?.getD s/\fr (D++[k]) s way=k:=by
 obtain⟨l,l2,rfl,h1,h2⟩:=List.sublist_append_iff.mp hs;obtain⟨nD,nk,dis⟩:=Ej.mp nd;rw[Ex]at nk;have fl:∀ z,l.filter (λx=>decide (x∈D++z))=l:=λz=>Ht.mpr λx hx=>by simp[h1.subset hx]
 have kl:=λz=>dis k (h1.subset z) k (by simp) rfl;have fD:∀ r:Ξ,r.Sublist rest->r.filter (λx=>decide _)=[]:=λr hr=>ET.mpr λx hx z=>dis x (by simpa using z) x (by simp[hr.subset hx]) rfl;have fk:∀ r:Ξ,r.Sublist rest->r.filter (λx=>decide (x∈D++[k]))=[]:=λr hr=>ET.mpr λx hx z=>by
  rcases Ea.mp (DZ z) with z|z
  ·exact dis x z x (by simp[hr.subset hx]) rfl
  ·exact nk.1 (E5.mp z▸hr.subset hx)
 have fl0:=fl [];rw[El]at fl0;unfold fr;rcases List.sublist_cons_iff.mp h2 with h2|⟨r,rfl,h3⟩
 ·refine .inl ⟨λz=>?_,?_⟩
  ·rcases Ea.mp z with z|z
   ·exact kl z
   ·exact nk.1 (h2.subset z)
  ·rw[FF,FF,fl,fl0,fD _ h2,fk _ h2]
 ·refine .inr ⟨l,r,rfl,?_,?_⟩
  ·have:=λz=>dis k z k (by simp) rfl;rw[FF,fl0,EZ,fD _ h3,DQ this];simp
  ·rw[FF,fl,EZ,fk _ h3];simp
theorem D8 {p:Int}(h:p ∣ a % p):p ∣ a:=by have:=FT h<|Int.dvd_mul_right p (a / p);rwa [FA]at this
abbrev Md:=List (Int×Ξ)
abbrev _root_.Δ:=List Θ
structure Om where
 R:List Md
 P:Δ
noncomputable def lk (R:Md)(k:Int):Ξ:=((R.find? λr=>decide (r.1=k)).map (·.2)).getD []
noncomputable def starts (m:Nat):Ξ:=(List.range m).map st
noncomputable def IC (m:Nat):Option Ξ->Ξ
 | none=>starts m
 | some ks=>ks
noncomputable def rowsOf (ê:List IB)(T:Om)(e:Nat):Md:=T.R.getD (ê.getD e (0,[])).1 []
noncomputable def shown (p:Int)(ê:List IB)(T:Om)(a:Ask)(k:Int):Int:=Ig p ((T.P.getD a.1 []).getD a.2.1 []) (lk (rowsOf ê T a.1) k)
noncomputable def newRow (p:Int)(m:Nat)(cs:Ξ)(R:Md)(x:J1)(told:Ξ):Ξ:=if x.1∈cs then List.replicate m 0 else J7 p (cols ((IC m x.2).map (lk R)) m) told
noncomputable def Ib (p:Int)(m:Nat)(ç:Θ)(R:List Md)(x:J1)(told:Ξ):List Md:=List.zipWith (λcs r=>r++[(x.1,newRow p m cs r x told)]) ç R
noncomputable def Kh (p:Int)(ê:List IB)(k:Int)(T:Om)(a:Ask):Om:={ T with P:=T.P.set a.1 (moved p (T.P.getD a.1 []) a.2.1 (lk (rowsOf ê T a.1) k)) }
noncomputable def HZ (p:Int)(m:Nat)(ê:List IB)(T:Om)(x:J1):Ξ:=PY p (IC m x.2) (ID ê x.1) (shown p ê T)
noncomputable def NM (p:Int)(m:Nat)(ç:Θ)(ê:List IB)(T:Om)(x:J1):Om:=(ID ê x.1).foldl (Kh p ê x.1) { T with R:=Ib p m ç T.R x (HZ p m ê T x) }
noncomputable def start (m:Nat)(ç:Θ)(ê:List IB):Om:=⟨ç.map λ_=>(List.range m).map λw=>(st w,HL m w),ê.map λ_=>ones m⟩
noncomputable def stN (p:Int)(m:Nat)(ç:Θ)(ê:List IB)(ord:List J1):Nat->Om
 | 0=>start m ç ê
 | n+1=>NM p m ç ê (stN p m ç ê ord n) (ord.getD n (0,none))
structure Ls (p:Int) (m:Nat) (ç:Θ) (ê:List IB) (ord:List J1):Prop where
 prime:My.JK p=true
 nd:(ord.map (·.1)).Nodup
 pos:∀ x∈ord,0<=x.1
 mix:∀ x∈ord,∀ ks,x.2=some ks->ks.Nodup
 ahd:∀ (i:Nat) x ks,ord[i]?=some x->x.2=some ks->∀ k∈ks,k∈(ord.take i).map (·.1)
 ech:∀ Ih∈ê,Ih.1<ç.length
 ways:∀ Ih∈ê,Ih.2.length=m
 SA:∀ Ih∈ê,∀ way∈Ih.2,way.Sublist (ord.map (·.1))
 link:∀ Ih∈ê,∀ way∈Ih.2,∀ l k r,way=l++k::r->∀ mx,(k,mx)∈ord->∀ w,w<m->l.getLast?.getD (st w)∈IC m mx
 UC:∀ Ih∈ê,Ih.2.flatten.Nodup
 free:∀ Ih∈ê,∀ way∈Ih.2,∀ k∈way,¬ k∈ç.getD Ih.1 []
 IX:(ê.length:Int)<=p
structure wH (p:Int) (m:Nat) (ç:Θ) (ê:List IB) (ord:List J1) (n:Nat) (T:Om):Prop where
 rl:T.R.length=ç.length
 pl:T.P.length=ê.length
 keys:∀ R∈T.R,R.map (·.1)=starts m++(ord.take n).map (·.1)
 rows:∀ R∈T.R,∀ r∈R,r.2.length=m/\JB p r.2
 ok:∀ e Ih,ê[e]?=some Ih->Ok p m (T.P.getD e []) λw=>lk (T.R.getD Ih.1 []) (fr ((ord.take n).map (·.1)) (st w) (Ih.2.getD w []))
theorem By (h:k∈R.map (·.1))(z:Md):lk (R++z) k=lk R k:=by
 obtain⟨r,hr,rfl⟩:=DI.mp h;unfold lk;rw[GZ]
 cases hf:R.find? λx=>decide (x.1=r.1) with
 | none=>exact absurd (DM rfl) (EU.mp hf r hr)
 | some x=>rfl
theorem OQ (h:¬ k∈R.map (·.1))(v:Ξ):lk (R++[(k,v)]) k=v:=by unfold lk;rw[GZ,EU.mpr λx hx z=>h<|by simpa using ⟨x.2,(DZ z)▸hx⟩];simp
theorem Qo (h:k∈R.map (·.1)):(k,lk R k)∈R:=by
 obtain⟨r,hr,rfl⟩:=DI.mp h;unfold lk
 cases hf:R.find? λx=>decide (x.1=r.1) with
 | none=>exact absurd (DM rfl) (EU.mp hf r hr)
 | some x=>
  have h1:=ED hf;have h2:x.1=r.1:=by simpa using Fy hf
  rw[<- h2];exact h1
theorem Ku {e:Nat}(h:ê[e]?=some Ih):rowsOf ê T e=T.R.getD Ih.1 []:=by unfold rowsOf;rw[DG (l:=ê),h];rfl
theorem U' (I:wH p m ç ê ord n T)(G:Ls p m ç ê ord)(h:Ih∈ê):T.R.getD Ih.1 []∈T.R:=by have:=G.ech Ih h;rw[DG,DF (by rw[I.rl];exact this)];exact EB _
theorem W0 (D:Ξ)(s:Int)(way:Ξ):fr D s way=s\/fr D s way∈D:=by
 unfold fr
 cases h:(way.filter λk=>decide (k∈D)).getLast? with
 | none=>exact .inl rfl
 | some x=>exact .inr (by simpa using (DY.mp<|List.mem_of_getLast? h).2)
theorem BK (I:wH p m ç ê ord n T)(G:Ls p m ç ê ord)(hR:R∈T.R)(hw:w<m)(way:Ξ):fr ((ord.take n).map (·.1)) (st w) way∈R.map (·.1):=by
 rw[I.keys R hR];rcases W0 ((ord.take n).map (·.1)) (st w) way with h|h
 ·rw[h];exact Ew _ (DS<|Eg.mpr hw)
 ·exact Ec _ h
theorem ON (I:wH p m ç ê ord n T)(G:Ls p m ç ê ord)(hx:ord[n]?=some x):P2 p (IC m x.2) (ID ê x.1) (shown p ê T):=by
 have xm:=DO hx;refine⟨G.prime,Int.le_trans (by have:=PD G.UC x.1;omega) G.IX,?_,λa ha=>?_,λa ha=>?_⟩
 ·cases h:x.2 with
  | none=>
   show (starts m).Nodup;unfold starts;rw[List.Nodup,G9];exact List.nodup_range.imp λn z=>n (by unfold st at z;omega)
  | some ks=>exact G.mix x xm ks h
 all_goals
  obtain⟨Ih,way,h1,h2,l,r,h3,h4⟩:=Lo.mp<|Lm.mp ha;have em:=DO h1;have wm:=DO h2;have hw:=G.ways Ih em▸(DJ.mp h2).1
 ·rw[h4];exact G.link Ih em way wm l x.1 r h3 x.2 xm _ hw
 ·have K:=I.ok a.1 Ih h1;have hn:=(DJ.mp hx).1;have od:ord=ord.take n++x::ord.drop (n+1):=by rw[<- (DJ.mp hx).2,<- FX hn,EF]
  have nd:=G.nd;have hs:=G.SA Ih em way wm;rw[od,DP]at nd hs;have ef:fr ((ord.take n).map (·.1)) (st a.2.1) way=a.2.2:=by
   rcases kn nd hs (st _) with⟨z,_⟩|⟨l',r',e1,e2,_⟩
   ·exact absurd (by rw[h3];simp) z
   ·have wn:=nd.sublist hs;rw[e1]at h3;rw[e2,h4];rw[e1]at wn;have:l'=l:=by
     have a1:=List.append_eq_append_iff.mp h3;rcases a1 with⟨as,q1,q2⟩|⟨bs,q1,q2⟩
     ·cases as with
      | nil=>simpa using q1.symm
      | cons y as=>
       cases q2;rw[h3,q1]at wn;exact absurd rfl ((Ej.mp wn).2.2 x.1 (by simp) x.1<|by simp)
     ·cases bs with
      | nil=>simpa using q1
      | cons y bs=>
       cases q2;rw[q1]at wn;exact absurd rfl ((Ej.mp wn).2.2 x.1 (by simp) x.1<|by simp)
    rw[this]
  have own:=K.own _ hw;have eg:Ih.2.getD a.2.1 []=way:=by rw[DG,h2];rfl
  rw[eg,ef]at own;unfold shown;rw[Ku h1,Iv];intro z;exact own (D8 z)
theorem Ok.congr (h:Ok p m P F)(e:∀ j,j<m->F' j=F j):Ok p m P F':=
 ⟨h.len,h.LW,λj hj=>by rw[e j hj];exact h.fw j hj,λi j hi hj n=>by rw[e j hj];exact h.off i j hi hj n,λi hi=>by rw[e i hi];exact h.own i hi,λx hx hk=>h.sep x hx λj hj=>by rw[<- e j hj];exact hk j hj⟩
theorem LK (k:Int):∀ (A:List Ask)(T:Om),(A.map (·.1)).Nodup->(A.foldl (Kh p ê k) T).R=T.R/\(A.foldl (Kh p ê k) T).P.length=T.P.length/\
  (∀ e,(∀ a∈A,a.1≠e)->(A.foldl (Kh p ê k) T).P.getD e []=T.P.getD e [])/\
  ∀ a∈A,a.1<T.P.length->(A.foldl (Kh p ê k) T).P.getD a.1 []=moved p (T.P.getD a.1 []) a.2.1 (lk (rowsOf ê T a.1) k)
 | [],T,_=>⟨rfl,rfl,λ_ _=>rfl,λ_ h=>(EJ h).elim⟩
 | b::A,T,nd=>by
  rw[DX,Ex]at nd;obtain⟨h1,h2,h3,h4⟩:=LK k A (Kh p ê k T b) nd.2;have l1:(Kh p ê k T b).P.length=T.P.length:=List.length_set;have off:∀ e,b.1≠e->(Kh p ê k T b).P.getD e []=T.P.getD e []:=λe n=>by show (T.P.set b.1 _).getD e []=_;rw[DG,GF n,DG]
  refine⟨h1,h2.trans l1,λe he=>?_,λa ha hl=>?_⟩
  ·rw[Gw,h3 e λa ha=>he a<|by simp[ha]];exact off e (he b<|by simp)
  ·rw[Gw];rcases E3.mp ha with rfl|ha
   ·rw[h3 a.1 λc hc z=>nd.1<|z▸DS hc];show (T.P.set a.1 _).getD a.1 []=_;rw[DG,Gr hl];rfl
   ·rw[h4 a ha<|l1▸hl,off a.1 λz=>nd.1<|z▸DS ha];rfl
theorem Ab (hp:0<p)(t:Θ)(v:Ξ):JB p (J7 p t v):=λx hx=>by obtain⟨r,_,rfl⟩:=DI.mp hx;rw[Iv];exact⟨EM _<|by omega,EC _ hp⟩
theorem qk (t:Θ)(m:Nat)(v:Ξ):(J7 p (cols t m) v).length=m:=by simp[J7,cols]
theorem Ad (hc:∀ b∈comes,b.length=m)(hq:q.length=m)(ht:told.length=comes.length):p ∣ dot q (J7 p (cols comes m) told) - dot told (comes.map λb=>dot q b):=by rw[x9];have h1:=Jx p q<|M' comes m told;have h2:=MN _ m _ q hc hq ht;have e:Pe _ q=comes.map λb=>dot q b:=E9 λb _=>IP b q;rw[e,IP]at h2;rw[<- h2];exact ER (by rw[Int.sub_emod,h1];simp)
theorem AG (I:wH p m ç ê ord n T)(G:Ls p m ç ê ord)(hx:ord[n]?=some x):wH p m ç ê ord (n+1) (NM p m ç ê T x):=by
 have p2:=((My.HY p).mp G.prime).1;have xm:=DO hx;have pre:=ON I G hx;obtain⟨tl,tf,tn⟩:=Qn pre;have hn:=(DJ.mp hx).1;have od:ord=ord.take n++x::ord.drop (n+1):=by rw[<- (DJ.mp hx).2,<- FX hn,EF]
 have tk:(ord.take<|n+1).map (·.1)=(ord.take n).map (·.1)++[x.1]:=by rw[F8,hx,DP];rfl
 have nd:=G.nd;rw[od,DP,DX]at nd;have nk:∀ R∈T.R,¬ x.1∈R.map (·.1):=λR hR z=>by
  rw[I.keys R hR]at z;rcases Ea.mp z with z|z
  ·obtain⟨w,_,e⟩:=DI.mp z;have:=G.pos x xm;unfold st at e;omega
  ·exact (Ej.mp nd).2.2 x.1 z x.1 (by simp) rfl
 obtain⟨f1,f2,f3,f4⟩:=LK x.1 (ID ê x.1) { T with R:=Ib p m ç T.R x (HZ p m ê T x) }<|NH G.UC x.1;have zat:∀ c r,ç[c]?=some r->∀ R,T.R[c]?=some R->(Ib p m ç T.R x<|HZ p m ê T x)[c]?=some _:=λc r hr R hR=>by unfold Ib;rw[Fm,hr,hR]
 have Xm:∀ R',R'∈Ib p m ç T.R x (HZ p m ê T x)->∃ R∈T.R,∃ r,R'=R++[(x.1,newRow p m r R x<|HZ p m ê T x)]:=λR' h=>by unfold Ib at h;obtain⟨c,hc,rfl⟩:=EA.mp h;rw[Hk];exact⟨_,EB _,_,rfl⟩
 unfold NM;refine⟨by rw[f1];simp[Ib,I.rl],f2.trans I.pl,λR' hR=>?_,λR' hR r hr=>?_,λe Ih he=>?_⟩
 ·rw[f1]at hR;obtain⟨R,h1,r,rfl⟩:=Xm R' hR;rw[DP,I.keys R h1,tk,Ez];rfl
 ·rw[f1]at hR;obtain⟨R,h1,cs,rfl⟩:=Xm R' hR;rcases Ea.mp hr with h|h
  ·exact I.rows R h1 r h
  ·rw[E5.mp h];unfold newRow;split
   ·exact⟨by simp,λz hz=>by have:=F5 hz;omega⟩
   ·exact⟨qk _ _ _,Ab (by omega) _ _⟩
 ·have em:=DO he;have K:=I.ok e Ih he;have hR:=U' I G em;have hel:=(DJ.mp he).1;have hc:=G.ech Ih em;have eR:T.R[Ih.1]?=some (T.R.getD Ih.1 []):=by rw[DG,DF (by rw[I.rl];exact hc)];rfl
  have eC:ç[Ih.1]?=some (ç.getD Ih.1 []):=by rw[DG,DF hc];rfl
  have eR':=zat Ih.1 _ eC _ eR;have gR':(Ib p m ç T.R x<|HZ p m ê T x).getD Ih.1 []=T.R.getD Ih.1 []++[(x.1,newRow p m (ç.getD Ih.1 []) (T.R.getD Ih.1 []) x<|HZ p m ê T x)]:=by rw[DG,eR'];rfl
  rw[f1];rw[gR',tk];generalize ZY:T.R.getD Ih.1 []=R at *
  have JM:∀ w,w<m->∀ way,lk (R++[(x.1,newRow p m (ç.getD Ih.1 []) R x<|HZ p m ê T x)]) (fr ((ord.take n).map (·.1)) (st w) way)=lk R (fr ((ord.take n).map (·.1)) (st w) way):=λw hw way=>By (BK I G hR hw way) _;have wat:∀ w,w<m->∃ way,Ih.2[w]?=some way/\Ih.2.getD w []=way/\way.Sublist _:=λw hw=>by
   have hw':w<Ih.2.length:=by rw[G.ways Ih em];exact hw
   refine⟨Ih.2[w],DF hw',by rw[DG,DF hw'];rfl,?_⟩;have:=G.SA Ih em _<|EB hw';rwa [od,DP,DX]at this
  by_cases hA:∃ w0,w0<m/\x.1∈Ih.2.getD w0 []
  ·obtain⟨w0,hw0,RM⟩:=hA;obtain⟨way,e1,e2,e3⟩:=wat w0 hw0;rw[e2]at RM;obtain⟨l,r,e4,e5,e6⟩:∃ l r,way=l++x.1::r/\fr ((ord.take n).map (·.1)) (st w0) way=l.getLast?.getD (st w0)/\fr ((ord.take n).map (·.1)++[x.1]) (st w0) way=x.1:=by
    rcases kn nd e3 (st w0) with⟨z,_⟩|z
    ·exact absurd RM z
    ·exact z
   have am:((e,w0,l.getLast?.getD<|st w0):Ask)∈ID ê x.1:=Lm.mpr<|Lo.mpr ⟨Ih,way,he,e1,l,r,e4,rfl⟩;have h4:=f4 _ am (by rw[I.pl];exact hel);have Oe:rowsOf ê { T with R:=Ib p m ç T.R x (HZ p m ê T x) } e=R++[(x.1,newRow p m (ç.getD Ih.1 []) R x<|HZ p m ê T x)]:=by rw[Ku he,<- gR']
   have h4:(List.foldl (Kh p ê x.1) { T with R:=Ib p m ç T.R x (HZ p m ê T x) }<|ID ê x.1).P.getD e []=moved p (T.P.getD e []) w0 (newRow p m (ç.getD Ih.1 []) R x<|HZ p m ê T x):=by rw[h4];rw[Oe,OQ<|nk R hR]
   rw[h4];have fre:=G.free Ih em way (DO e1) x.1 RM;have cl:∀ b∈(IC m x.2).map (lk R),b.length=m:=λb hb=>by
    obtain⟨k,hk,rfl⟩:=DI.mp hb;refine (I.rows R hR (k,lk R k) (Qo ?_)).1;rw[I.keys R hR]
    cases h:x.2 with
    | none=>rw[h]at hk;exact Ew _ hk
    | some ks=>rw[h]at hk;exact Ec _ (G.ahd n x ks hx h k hk)
   have XM:newRow p m (ç.getD Ih.1 []) R x (HZ p m ê T x)=J7 p (cols ((IC m x.2).map<|lk R) m) (HZ p m ê T x):=by unfold newRow;rw[if_neg fre]
   have hq:=(K.at hw0).1;have d1:=Ad (p:=p) (told:=HZ p m ê T x) cl hq (by rw[DH];exact tl);have shn:¬ p ∣ dot ((T.P.getD e []).getD w0 []) (newRow p m (ç.getD Ih.1 []) R x<|HZ p m ê T x):=λz=>by
    rw[XM]at z;have:=Gf z d1;rw[Int.sub_sub_self,DL]at this;refine tn _ am ?_;have e7:(IC m x.2).map (shown p ê T (e,w0,l.getLast?.getD<|st w0))=((IC m x.2).map<|(λb=>dot ((T.P.getD e []).getD w0 []) b) ∘ lk R).map (· % p):=by rw[DL];refine E9 λk _=>?_;unfold shown;rw[Ku he,ZY,Iv];rfl
    rw[e7];have h5:=Jx p (HZ p m ê T x)<|(IC m x.2).map ((λb=>dot ((T.P.getD e []).getD w0 []) b) ∘ lk R);rw[FH this]at h5;exact ER h5
   refine (K.move G.prime hw0 (by rw[XM];exact qk _ _ _) shn).congr λw hw=>?_;by_cases c:w=w0
   ·subst c;rw[if_pos rfl,e2,e6,OQ<|nk R hR]
   ·rw[if_neg c];obtain⟨X3,g1,g2,g3⟩:=wat w hw;have ZM:¬ x.1∈X3:=λz=>by
     have fl:=G.UC Ih em;rw[List.Nodup,List.pairwise_flatten]at fl;have pw:=List.pairwise_iff_getElem.mp fl.2;obtain⟨i1,j1⟩:=DJ.mp g1;obtain⟨i2,j2⟩:=DJ.mp e1;rcases Nat.lt_or_gt_of_ne c with q|q
     ·exact pw w w0 i1 i2 q x.1 (j1▸z) x.1 (j2▸RM) rfl
     ·exact pw w0 w i2 i1 q x.1 (j2▸RM) x.1 (j1▸z) rfl
    rw[g2];rcases kn nd g3 (st w) with⟨_,z⟩|⟨l',r',z,_⟩
    ·rw[z];exact JM w hw X3
    ·exact absurd (by rw[z];simp) ZM
  ·have h3:=f3 e λa ha z=>by
    obtain⟨a8U,way,h1,h2,l,r,h3,h4⟩:=Lo.mp<|Lm.mp ha;rw[z,he]at h1
    cases h1;have hw:=G.ways Ih em▸(DJ.mp h2).1;refine hA ⟨a.2.1,hw,?_⟩;rw[DG,h2];rw[h3];simp
   rw[h3];refine K.congr λw hw=>?_;obtain⟨way,g1,g2,g3⟩:=wat w hw;rw[g2];rcases kn nd g3 (st w) with⟨_,z⟩|⟨l',r',z,_⟩
   ·rw[z];exact JM w hw way
   ·exact absurd ⟨w,hw,by rw[g2,z];simp⟩ hA
theorem zo (G:Ls p m ç ê ord):wH p m ç ê ord 0 (start m ç ê):=by
 have p2:=((My.HY p).mp G.prime).1;have hk:((List.range m).map λw=>(st w,HL m w)).map (·.1)=starts m:=by rw[DL];rfl
 refine⟨by simp[start],by simp[start],λR hR=>?_,λR hR r hr=>?_,λe Ih he=>?_⟩
 ·obtain⟨_,_,rfl⟩:=DI.mp hR;rw[hk];simp
 ·obtain⟨_,_,rfl⟩:=DI.mp hR;obtain⟨w,_,rfl⟩:=DI.mp hr;exact⟨Ic _ _,eS (by omega) _ _⟩
 ·have em:=DO he;have e1:(start m ç ê).P.getD e []=ones m:=by show ((ê.map λ_=>ones m)[e]?).getD []=_;rw[DN,he];rfl
  have e2:(start m ç ê).R.getD Ih.1 []=(List.range m).map λw=>(st w,HL m w):=by show ((ç.map λ_=>_)[Ih.1]?).getD []=_;rw[DN,DF<|G.ech Ih em];rfl
  rw[e1,e2];refine (Ok.start (by omega) m).congr λj hj=>?_;have e3:fr ((ord.take 0).map (·.1)) (st j) (Ih.2.getD j [])=st j:=by unfold fr;rw[ET.mpr λx _ z=>by simp at z];rfl
  rw[e3];have h:=Qo (by rw[hk];exact DS<|Eg.mpr hj);obtain⟨w,_,e4⟩:=DI.mp h;have e5:=congrArg Prod.fst e4;have e6:w=j:=by unfold st at e5;omega
  exact (congrArg Prod.snd e4).symm.trans (by rw[e6])
theorem KJ (G:Ls p m ç ê ord):∀ n,n<=ord.length->wH p m ç ê ord n (stN p m ç ê ord n)
 | 0,_=>zo G
 | n+1,h=>by
  have hx:ord[n]?=some (ord.getD n (0,none)):=by rw[DG,DF<|by omega];rfl
  exact AG (KJ G n<|by omega) G hx
theorem OG (es:List IB)(Ih:IB):JS (es++[Ih])=JS es++JR es.length Ih.2:=by unfold JS;rw[Gq,EV];simp
theorem OE {e:Nat}{ways:Θ}(h:ways[w]?=some way):JR e (ways.take (w+1))=JR e (ways.take w)++LR e w way:=by have hw:=(DJ.mp h).1;unfold JR;rw[F8,h,Gq];simp[Nat.min_eq_left<|GU hw]
theorem Dw (es fs:List IB):(JS es).length<=(JS (es++fs)).length:=by unfold JS;rw[Gq,EV,DT];omega
theorem Do (e:Nat)(ways:Θ)(w:Nat):(JR e (ways.take w)).length<=(JR e ways).length:=by
 have h:JR e ways=JR e (ways.take w)++((ways.drop w).zipIdx (ways.take w).length).flatMap λx=>LR e x.2 x.1:=by unfold JR;congr 1;have:=@Gq _ (ways.take w) (ways.drop w) 0;rw[EF]at this;rw[this];simp
 rw[h,DT];omega
theorem QF (L:List (Int×Ask))(k:Int)(a:Ask):pick (L++[(k,a)]) k=pick L k++[a]:=by unfold pick;rw[FF,DP];simp
theorem PU (L:List (Int×Ask))(h:k≠k')(a:Ask):pick (L++[(k,a)]) k'=pick L k':=by unfold pick;simp[h]
theorem SQ (L:List (Int×Ask))(k:Int):(pick L k).length<=L.length:=by unfold pick;rw[DH];exact Eh _ _
noncomputable def HX (found:List Δ):List IB:=found.zipIdx.flatMap λx=>x.1.map λways=>(x.2,ways)
theorem Np {found:List Δ}(h:found[c]?=some bl):HX (found.take (c+1))=HX (found.take c)++bl.map λways=>(c,ways):=by have hc:=(DJ.mp h).1;unfold HX;rw[F8,h,Gq];simp[Nat.min_eq_left<|GU hc]
theorem xR (found:List Δ)(c:Nat):∃ r,HX found=HX (found.take c)++r:=by refine⟨((found.drop c).zipIdx (found.take c).length).flatMap λx=>x.1.map λways=>(x.2,ways),?_⟩;unfold HX;congr 1;have:=@Gq _ (found.take c) (found.drop c) 0;rw[EF]at this;rw[this];simp
theorem room (hB:(JS (HX found)).length<=B)(h1:found[c]?=some bl)(h2:bl[j]?=some ways)(h3:ways[w]?=some way):
  (JS (HX (found.take c)++(bl.take j).map λways=>(c,ways))++JR (HX (found.take c)++(bl.take j).map λways=>(c,ways)).length (ways.take w)++(LR (HX (found.take c)++(bl.take j).map λways=>(c,ways)).length w way).take i).length<=B:=by
 obtain⟨r,hr⟩:=xR found _;have e1:bl=bl.take j++ways::bl.drop (j+1):=by obtain⟨hj,e⟩:=DJ.mp h2;rw[<- e,<- FX hj,EF]
 rw[Np h1,e1,DP,DX,<- Ez,Ez,List.cons_append,List.append_cons]at hr;rw[hr]at hB;generalize (HX _++(bl.take j).map λways=>_)=A at hB ⊢;refine Ei ?_ hB;refine Ei ?_<|Dw _ _;rw[OG,DT,DT,DT];have h4:=Do A.length ways<|w+1;rw[OE h3,DT]at h4;rw[E4];show _<=(JS A).length+(JR _ ways).length;omega
theorem OC (I:wH p m ç ê ord n T)(G:Ls p m ç ê ord)(hx:ord[n]?=some x):∀ R∈T.R,¬ x.1∈R.map (·.1):=λR hR z=>by
 rw[I.keys R hR]at z;have hn:=(DJ.mp hx).1;have nd:=G.nd;rw[show ord=ord.take n++x::ord.drop _ by rw[<- (DJ.mp hx).2,<- FX hn,EF],DP]at nd;rcases Ea.mp z with z|z
 ·obtain⟨w,_,e⟩:=DI.mp z;have:=G.pos x<|DO hx;unfold st at e;omega
 ·exact (Ej.mp nd).2.2 x.1 z x.1 (by simp) rfl
theorem PK (X R:List α)(hc:c<=X.length)(j:Nat)(d:α):(X.take c++R.drop c).getD j d=if j<c then X.getD j d else R.getD j d:=by
 have hl:(X.take c).length=c:=by rw[E4];omega
 rw[DG];by_cases h:j<c
 ·rw[if_pos h,Em<|by omega,EK h,DG]
 ·rw[if_neg h,Es<|by omega,Gs];congr 2;omega
theorem Lk (hk:ç[c]?=some ks)(hR:c<R.length):(Ib p m ç R x told).getD c []=R.getD c []++[(x.1,newRow p m ks (R.getD c []) x told)]:=by
 have e:R[c]?=some (R.getD c []):=by rw[DG,DF hR];rfl
 unfold Ib;rw[DG,Fm,hk,e];rfl
section
variable {p:Int}{m:Nat}{ç:Θ}{ê:List IB}{ord:List J1}
theorem AH (G:Ls p m ç ê ord)(n:Nat)(hn:n<ord.length)(hc:ç[c]?=some ks):(stN p m ç ê ord (n+1)).R.getD c []=(stN p m ç ê ord n).R.getD c []++[((ord.getD n (0,none)).1,newRow p m ks ((stN p m ç ê ord n).R.getD c []) (ord.getD n (0,none)) (HZ p m ê (stN p m ç ê ord n) (ord.getD n (0,none))))]:=by have I:=KJ G n (by omega);show (NM p m _ _ _ _).R.getD c []=_;unfold NM;rw[(LK _ _ _<|NH G.UC _).1];exact Lk hc (by rw[I.rl];exact (DJ.mp hc).1)
theorem yG (G:Ls p m ç ê ord)(hc:ç[c]?=some ks)(n:Nat):∀ d,n+d<=ord.length->∃ z,(stN p m ç ê ord (n+d)).R.getD c []=(stN p m ç ê ord n).R.getD c []++z
 | 0,_=>⟨[],(El _).symm⟩
 | d+1,h=>by obtain⟨z,e⟩:=yG G hc n d (by omega);have h2:=AH G (n+d) (by omega) hc;rw[e,Ez]at h2;exact⟨_,h2⟩
noncomputable abbrev OZ (p:Int)(m:Nat)(ç:Θ)(ê:List IB)(ord:List J1)(c:Nat):Md:=(stN p m ç ê ord ord.length).R.getD c []
theorem xQ (G:Ls p m ç ê ord)(hc:ç[c]?=some ks)(hn:n<=ord.length)(hk:k∈starts m++(ord.take n).map (·.1)):lk (OZ p m ç ê ord c) k=lk ((stN p m ç ê ord n).R.getD c []) k:=by
 obtain⟨z,e⟩:=yG G hc n (ord.length - n) (by omega);rw[show n+_=ord.length by omega]at e;unfold OZ;rw[e];refine By ?_ z;have I:=KJ G n hn;have Q3:=(DJ.mp hc).1;have hm:(stN p m ç ê ord n).R.getD c []∈(stN p m ç ê ord n).R:=by rw[DG,DF (by rw[I.rl];exact Q3)];exact EB _
 rw[I.keys _ hm];exact hk
theorem Te (G:Ls p m ç ê ord)(hc:ç[c]?=some ks)(hx:ord[n]?=some x):lk (OZ p m ç ê ord c) x.1=newRow p m ks (OZ p m ç ê ord c) x (HZ p m ê (stN p m ç ê ord n) x):=by
 have hn:=(DJ.mp hx).1;have eg:ord.getD n (0,none)=x:=by rw[DG,hx];rfl
 have I:=KJ G n (by omega);have Q3:=(DJ.mp hc).1;have hm:(stN p m ç ê ord n).R.getD c []∈(stN p m ç ê ord n).R:=by rw[DG,DF (by rw[I.rl];exact Q3)];exact EB _
 rw[xQ G hc (n:=n+1) (by omega)<|Ec _ (DI.mpr ⟨x,by rw[F8,hx];simp,rfl⟩),AH G n hn hc,eg,OQ<|OC I G hx _ hm];unfold newRow;split
 ·rfl
 ·congr 2;refine E9 λk hk=>(xQ G hc (by omega) ?_).symm
  cases h:x.2 with
  | none=>rw[h]at hk;exact Ew _ hk
  | some Rc=>rw[h]at hk;exact Ec _ (G.ahd n x Rc hx h k hk)
theorem R3 (G:Ls p m ç ê ord)(hc:ç[c]?=some ks)(hw:w<m):lk (OZ p m ç ê ord c) (st w)=HL m w:=by
 rw[xQ G hc (EE _)<|Ew _ (DS<|Eg.mpr hw)];have e2:(start m ç ê).R.getD c []=(List.range m).map λw=>(st w,HL m w):=by show ((ç.map λ_=>_)[c]?).getD []=_;rw[DN,hc];rfl
 show lk ((start m _ _).R.getD c []) _=_;rw[e2];have h:=Qo (R:=(List.range m).map λw=>(st w,HL m w)) (by rw[DL];exact DS<|Eg.mpr hw);obtain⟨w',_,e4⟩:=DI.mp h;have e5:st w'=st w:=congrArg Prod.fst e4;have e6:w'=w:=by unfold st at e5;omega
 exact (congrArg Prod.snd e4).symm.trans (by rw[e6])
theorem Td (G:Ls p m ç ê ord){e:Nat}(he:ê[e]?=some Ih)(ne:∀ way∈Ih.2,way≠[])(hx:x.length=m)(hk:∀ way∈Ih.2,∀ k,way.getLast?=some k->p ∣ dot x (lk (OZ p m ç ê ord Ih.1) k))(hy:y.length=m):p ∣ dot x y:=by
 have I:=KJ G _<|DV _;have em:=DO he;refine (I.ok e Ih he).sep x hx (λj hj=>?_) y hy;have Rf:j<Ih.2.length:=by rw[G.ways Ih em];exact hj
 have eg:Ih.2.getD j []=Ih.2[j]:=by rw[DG,DF Rf];rfl
 have wm:=EB Rf;rw[eg,Et];have hf:fr (ord.map (·.1)) (st j) Ih.2[j]=(Ih.2[j].getLast?).getD (st j):=by unfold fr;rw[Ht.mpr λk hk=>DM<|(G.SA Ih em _ wm).subset hk]
 rw[hf]
 cases hl:Ih.2[j].getLast? with
 | none=>exact absurd (List.getLast?_eq_none_iff.mp hl) (ne _ wm)
 | some k=>exact hk _ wm k hl
end
end Mk
namespace K92
open PySem L2
open PyProof.Rows (boot_all boot_any boot_bool boot_dict boot_int boot_list boot_sorted boot_str boot_tuple)
structure Kj (K:Ψ) (mg:Ω) (CE:Addr):Prop where
 cl:LF K CE
 nR:IE K CE "rows"
 nB:IE K CE "probes"
 Ir:mg "range"=none
 Kw:mg "zip"=none
 U9:mg "any"=none
 IH:mg "len"=none
 Kg:mg "enumerate"=none
noncomputable abbrev xS (CE:Addr)(R:Mk.Md)(B:Θ):D:=.ins CE ["rows","probes"] [bz R,tb B]
section
variable {C CE:Addr}
theorem Kj.fr (T:Kj K mg CE):∀ C',C'=CE->LF K C'/\IE K C' "rows":=λC' h=>h▸⟨T.cl,T.nR⟩
theorem Kj.fb (T:Kj K mg CE):∀ C',C'=CE->LF K C'/\IE K C' "probes":=λC' h=>h▸⟨T.cl,T.nB⟩
theorem dNg (h:PE X a (tC (.int i))):PE X (.UnaryOp .USub a pos) (tP (rC (.int (-i)))):=(XA UD h).imp λσ H Q gR=>by obtain⟨F,ε,d,S,r,q⟩:=gR;exact⟨i,rfl,tP.at S.le q (by rw[r];rfl)⟩
theorem wL (h:k∈R.map (·.1)):cI (R.map λr=>((.inl r.1:Key),rw r.2)) (.inl k)=some (rw (Mk.lk R k)):=by obtain⟨x,h1,h2⟩:=DI.mp h;obtain⟨y,hy⟩:=Fp.mp (GY (p:=λr:aU=>decide (r.1=k)) |>.mpr ⟨x,h1,DM h2⟩);rw[gQ hy,show Mk.lk R k=y.2 by unfold Mk.lk;rw[hy];rfl]
inductive cX:Ä
 |mk {m:Nat}:m<=1000->cX [.int m] (rw (Mk.starts m))
noncomputable abbrev dJ:Stmt:=top 84
theorem m4:ae č č (a8 dJ):=IM
theorem mC (F:Iy K "message_ties" "message_ties" dJ f fd)(T:Kj K mg CE):HP P w K mg base Ik 1 f fd č (Pr cX):=by
 refine F.dv m4 ?_ λHU A _ s H E hr=>(q1 (qR (dL 0 rfl (cS 1 [] ["place"]) (QN rfl T.Ir<|da (Đ 0) HS)
  (λ_ _ _ _ _=>pC 0)
  (λ_ _ _ _ _=>Lp)
  (λ_ _ _ _ _=>dO tj gr (dNg aa)<|Đ 0))))
 rintro _ _ @⟨m,hm⟩;exact⟨rfl,.inl ⟨aR ⟨m,hm,⟨rfl,rfl⟩,(bt m).symm⟩ (by simpa using hm) λj _=>⟨_,rfl,rfl,rfl,⟨trivial⟩⟩,P9 _ _⟩⟩
inductive pB (C CE:Addr):Ä
 |mk {p k:Int}{i:Nat}{B:Θ}{R:Mk.Md}:0<p->p<=1000000->k∈R.map (·.1)->i<B.length->RY p (B.getD i [])->(B.getD i []).length<=1000->pB C CE [xS CE R B,fD C p,.int i,.int k] (.int (Mx.Ig p (B.getD i []) (Mk.lk R k)))
noncomputable abbrev ie:Stmt:=aF (top 82) 1
theorem sJ:ae ã ã (a8 ie):=IM
theorem tT (F:Iy K "shown" "Ear.shown" ie f fd)(T:Kj K mg CE)(Jc:Df P w K mg base 3 "row_sum" ì (Pr (iD C))):HP P w K mg base Ik 4 f fd ã (Pr (pB C CE)):=by
 have Tb:=T.fr;have R1:=T.fb;refine F.dv sJ ?_ λHU A _ s H E hr=>(q1<|qR (dF Jc hr.m rfl<|da (Đ 1) (da (dS (ao hr) (PH R1<|Đ 0)<|Đ 2)<|da (dS (ao hr) (PH Tb<|Đ 0)<|Đ 3) HS)))
 rintro _ _ @⟨p,k,i,B,R,p0,p1,hk,hi,hf,hl⟩;exact⟨rfl,.inl ⟨⟨⟨rfl,⟨⟨rfl,rfl,rfl⟩,rfl,.l .lst<|y6 hi⟩,⟨⟨rfl,rfl,rfl⟩,rfl,.k (wL hk) kI⟩,rfl⟩,⟨p0,p1,hl,hf⟩⟩,rfl⟩⟩
inductive LL (C:Addr):Ä
 |mk {p:Int}{us ss:Ξ}:My.JK p=true->p<=1000000->(us.length:Int)<p->us.length<=1000->(∀ u∈us,¬ p ∣ u)->RY p us->LL C [fD C p,rw us,rw ss] (.int (Mk.ub p us ss:Nat))
noncomputable abbrev j9:Stmt:=top 86
theorem Nj:ae ["field","values","steps","often"] ċ (a8 j9):=IM
theorem v5 (F:Iy K "unbarred" "unbarred" j9 f fd)(T:Kj K mg CE)(HQ:Dm P w K mg base 1 C "fit" å (Pr (Nx C))):HP P w K mg base Ik 2 f fd ċ (Pr (LL C)):=by
 have ND:=Nj.nd;refine F.dv Nj ?_ λHU A outer s H E hr=>(qC (qS (pS 3 ND<|dC aa) λ_ _ _ h=>h)
 (qC (qW E1 (dV (cf (dB We (Am K rfl) rfl T.U9 boot_any (da (dL 2 rfl (cS 2 [0,3] ["value","step","field","often"]) (iZ rfl T.Kw<|da (Đ 1) (da (Đ 2) HS))
  (λ_ _ _ _ _=>cr K rfl<|af (pC 0) (af (pC 1) aD))
  (λ_ _ _ _ _=>Lp)
  (λ_ _ _ _ _=>dM bf cF (Nq (Đ 2) HQ hr.m<|da (Qw (dO cC NB (Đ 3)<|Đ 0)<|Đ 1) HS)<|dC aa)) HS))))
  (q1<|UX (x8 (i:=3) ND rfl (by first|exact Or.inl rfl|exact Or.inr rfl) (dC aa) xI)))
 (q1<|qR (Đ 3))))
 rintro _ _ @⟨p,us,ss,hP,p1,hl,hz,nz,hF⟩;obtain⟨u1,u2,u3⟩:=Mk.Rn hP (ss:=ss) hl nz;refine⟨rfl,.inl (.nx ⟨rfl⟩ ?_)⟩;refine g6 (β:=Nat) (λj ε=>ε=[.fz<|fD C p,.fz<|rw us,.fz<|rw ss,.fz<|.int j]/\j<=Mk.ub p us ss) (λj=>Mk.ub p us ss - j) ⟨rfl,EE _⟩ λj ε gR=>?_;obtain⟨he,hj⟩:=gR;subst he;have rd:rF Tj (rA (rL 2 [0,3] (λε l=>∃ m n,rA (rV 1) (rA (rV 2) Of) ε [.lst m,.lst n]/\l=(m.zip n).map λz=>.tup [z.1,z.2]) AU<|rO (fE false) (ZG C "fit" (Nx C) (rV 2)<|rA (rO DE (rO (fI R9 λi j=>PV<|.int (i * j)) (rV 3)<|rV 0)<|rV 1) Of) (rC<|.int 0)) Of) [some<|fD C p,some<|rw us,some<|rw ss,some<|.int j] (.bl<|Mk.JE p j us ss):=by refine⟨⟨aR ⟨_,_,⟨rfl,rfl,rfl⟩,iH _ _⟩ (by rw[Fd];omega) λz hz=>⟨_,⟨rfl,rfl⟩,eq_int ⟨rfl,by decide,⟨⟨⟨rfl,rfl,⟨.inl ⟨by omega,by omega⟩⟩⟩,rfl,.i⟩,rfl⟩,⟨by omega⟩⟩ rfl⟩,rfl⟩,?_⟩;have:=Tj.mk (by rw[DL];rfl:(us.zip ss).map (λz=>D.bl<|decide (((j:Int) * z.1+z.2) % p=0))=_);unfold Mk.JE;rw[<- Fb,List.any_map];rwa [List.any_map]at this
 by_cases z:j<Mk.ub p us ss
 ·rw[u2 j z]at rd;exact .inr ⟨rd,j+1,_,⟨rfl,rfl⟩,⟨rfl,z⟩,by omega⟩
 ·have z:j=Mk.ub p us ss:=by omega
  rw[z,u1]at rd;exact .inl ⟨by rw[z];exact rd,rfl,by rw[z]⟩
inductive jD (C:Addr):Ä
 |mk {p:Int}{t:Θ}{r:Ξ}:0<p->p<=1000000->(∀ z∈t,RY p z/\z.length<=1000)->t.length<=1000->jD C [fD C p,tb t,rw r] (rw (Mx.J7 p t r))
noncomputable abbrev hX:Stmt:=top 40
theorem sB:ae Ă Ă (a8 hX):=IM
theorem tD (F:Iy K "times_row" "times_row" hX f fd)(Jc:Df P w K mg base 3 "row_sum" ì (Pr (iD C))):HP P w K mg base Ik 4 f fd Ă (Pr (jD C)):=by
 refine F.dv sB ?_ λHU A _ s H E hr=>(q1 (qR (Od 0 rfl (cS 1 [0,2] ["mine","field","row"]) (ax<|Đ 1)
  (λ_ _ _ _ _=>pC 0)
  (λ_ _ _ _ _=>Lp)
  (λ_ _ _ _ _=>dF Jc hr.m rfl<|da (Đ 1) (da (Đ 0)<|da (Đ 2) HS)))))
 rintro _ _ @⟨p,t,r,p0,p1,ht,hl⟩;exact⟨rfl,.inl ⟨aR ⟨rfl,.l .lst⟩ hl λz hz=>⟨_,rfl,⟨rfl,rfl,rfl,rfl⟩,⟨p0,p1,(ht z hz).2,(ht z hz).1⟩⟩,P9 _ _⟩⟩
inductive jE (C:Addr):Ä
 |mk {p:Int}{m:Nat}{mixed told:Ξ}{R:Mk.Md}:0<p->p<=1000000->(∀ k∈mixed,k∈R.map (·.1)/\(Mk.lk R k).length=m/\RY p (Mk.lk R k))->mixed.length<=1000->m<=1000->jE C [fD C p,rw mixed,rw told,bz R,.int m] (rw (Mx.J7 p (Mx.cols (mixed.map (Mk.lk R)) m) told))
noncomputable abbrev i0:Stmt:=top 88
theorem Ms:ae ["field","mixed","told","rows","many","comes"] õ (a8 i0):=IM
theorem tF (F:Iy K "mixed_row" "mixed_row" i0 f fd)(T:Kj K mg CE)(Lu:Df P w K mg base 4 "times_row" Ă (Pr (jD C)))(KD:Df P w K mg base 1 "column" ć (Pr kF)):HP P w K mg base Ik 5 f fd õ (Pr (jE C)):=by
 have ND:=Ms.nd;refine F.dv Ms ?_ λHU A outer s H E hr=>(qC (qS (pS 5 ND (Od 0 rfl (cS 1 [3] ["number","rows"]) (ax<|Đ 1)
  (λ_ _ _ _ _=>pC 0)
  (λ_ _ _ _ _=>Lp)
  (λ_ _ _ _ _=>dS (ao hr) (Đ 1)<|Đ 0))) λ_ _ _ h=>h)
 (q1 (qR (dF Lu hr.m rfl (da (Đ 0) (da (dL 0 rfl (cS 1 [5] ["place","comes"]) (QN rfl T.Ir<|da (Đ 4) HS)
  (λ_ _ _ _ _=>pC 0)
  (λ_ _ _ _ _=>Lp)
  (λ_ _ _ _ _=>dF KD hr.m rfl<|da (Đ 1) (da (Đ 0) HS)))<|da (Đ 2) HS))))))
 rintro _ _ @⟨p,m,mixed,told,R,p0,p1,hk,hl,hm⟩;refine⟨rfl,.inl<|.nx ⟨dj ⟨rfl,.l .lst⟩ hl (λk h=>⟨_,rfl,rfl,rfl,.k (wL (hk k h).1) kI⟩) (by rw[show tb _=.lst _ from rfl,DL];rfl)⟩ ⟨⟨⟨rfl,dj ⟨m,hm,⟨rfl,rfl⟩,(bt m).symm⟩ (by simpa using hm) (λj hj=>⟨_,rfl,⟨rfl,rfl,rfl⟩,.l (by simpa using hl) λr hr=>?_⟩) ?_,rfl,rfl⟩,⟨p0,p1,?_,?_⟩⟩,rfl⟩⟩
 ·obtain⟨k,h1,rfl⟩:=DI.mp hr;rw[(hk k h1).2.1];exact Eg.mp hj
 ·unfold Mx.cols;rw[show tb _=.lst _ from rfl,DL];rfl
 ·intro z hz;obtain⟨j,hj,rfl⟩:=DI.mp hz;refine⟨λy hy=>?_,by unfold Mx.col;simpa using hl⟩;unfold Mx.col at hy;rw[DL]at hy;obtain⟨k,h1,rfl⟩:=DI.mp hy;have:=hk k h1;exact Mk.MM p0 this.2.2 j
 ·unfold Mx.cols;simpa using hm
end
section
variable {C CE:Addr}
noncomputable abbrev wB (CE:Addr)(R:Mk.Ask->Mk.Md)(B:Mk.Ask->Θ)(a:Mk.Ask):D:=.tup [xS CE (R a) (B a),.int (a.2.1:Nat),.int a.2.2]
structure Zv (p:Int) (A:List Mk.Ask) (R:Mk.Ask->Mk.Md) (B:Mk.Ask->Θ) (s:Mk.Ask->Int->Int):Prop where
 pl:∀ a∈A,a.2.1<(B a).length
 fit:∀ a∈A,RY p ((B a).getD a.2.1 [])/\((B a).getD a.2.1 []).length<=1000
 has:∀ a∈A,∀ b∈A,b.2.2∈(R a).map (·.1)
 sh:∀ a∈A,∀ k,s a k=Mx.Ig p ((B a).getD a.2.1 []) (Mk.lk (R a) k)
inductive gD (C CE:Addr):Ä
 |mk {p:Int}{mixed:Ξ}{A:List Mk.Ask}{R:Mk.Ask->Mk.Md}{B:Mk.Ask->Θ}{s:Mk.Ask->Int->Int}:p<=1000000->Zv p A R B s->Mk.P2 p mixed A s->mixed.length<=1000->A.length<=1000->gD C CE [fD C p,rw mixed,.lst (A.map (wB CE R B))] (rw (Mk.PY p mixed A s))
theorem jT (n:Nat):rw (List.replicate n 0)=.lst (List.replicate n (.int 0)):=congrArg D.lst List.map_replicate
noncomputable abbrev fe:Stmt:=top 87
theorem Ld:ae ["field","mixed","asks","told","values","at","ask","steps","often"] ["field","mixed","asks"] (a8 fe):=IM
theorem om (F:Iy K "multipliers" "multipliers" fe f fd)(T:Kj K mg CE)(Ja:Dm P w K mg base 4 CE "shown" ã (Pr (pB C CE)))(HQ:Dm P w K mg base 1 C "fit" å (Pr (Nx C)))(Mg:Df P w K mg base 2 "unbarred" ċ (Pr (LL C))):HP P w K mg base Ik 5 f fd ["field","mixed","asks"] (Pr (gD C CE)):=by
 have ND:=Ld.nd;refine F.dv Ld ?_ λHU A outer s H E hr=>(qC (qS (pS 3 ND<|dO l8 qH (d7<|da (dC aa) HS).p (dB b5 aG rfl T.IH boot_len<|da (Đ 1) HS)) λ_ _ _ h=>h)
 (qC (qS (pS 4 ND<|dO l8 qH (d7<|da (dC aa) HS).p (dB b5 aG rfl T.IH boot_len<|da (Đ 2) HS)) λ_ _ _ h=>h)
 (qC (qL E1 rfl (iE rfl T.Kg<|da (Đ 2) HS) (cr K rfl<|af (pN 5 ND) (af (pN 6 ND) aD)) (fY K [5,6])
  (q1 (qI (dT bf cF (dS (ao hr) (Đ 4)<|Đ 5)<|dC aa)
  (qC (SM (n:=3) (aP (i:=7) ND rfl rfl rfl (cS 3 [0,6] ["ear","way","ahead","field","ask"]) (ax<|Đ 2)
  (λ_ _ _ _ _=>cr K rfl<|af (pC 0) (af (pC 1)<|af (pC 2) aD))
  (λ_ _ _ _ _=>Lp)
  (λ_ _ _ _ _=>Nq (Đ 0) Ja hr.m<|da (Đ 3) (da (Đ 1)<|da (dS (ao hr) (Đ 4)<|dC aa) HS))) rfl)
 (qC (qS (pS 8 ND<|dF Mg hr.m rfl (da (Đ 0)<|da (Uv (Đ 4) Uu<|Ut (Đ 5)) (da (Đ 7) HS))) λ_ _ _ h=>h)
 (qC (qS (aP (i:=3) ND rfl rfl rfl (cS 2 [0,6,8] ["number","mine","field","ask","often"]) (iZ rfl T.Kw<|da (Đ 1) (da (Đ 3) HS))
  (λ_ _ _ _ _=>cr K (n:=2) rfl<|af (pC 0) (af (pC 1) aD))
  (λ_ _ _ _ _=>Lp)
  (λ_ _ _ _ _=>Nq (Đ 2) HQ hr.m<|da (Qw (dO cC NB (Đ 4)<|Đ 1)<|Th (dT bf cF (Đ 0)<|dS (ao hr) (Đ 3) (dC aa)) (dC aa) (dC aa)) HS)) λ_ _ _=>nU (K:=K) (n:=2))
 (q1 (qS (aP (i:=4) ND rfl rfl rfl (cS 2 [0,8] ["value","step","field","often"]) (iZ rfl T.Kw<|da (Đ 4) (da (Đ 7) HS))
  (λ_ _ _ _ _=>cr K (n:=2) rfl<|af (pC 0) (af (pC 1) aD))
  (λ_ _ _ _ _=>Lp)
  (λ_ _ _ _ _=>Nq (Đ 2) HQ hr.m<|da (Qw (dO cC NB (Đ 3)<|Đ 0)<|Đ 1) HS)) λ_ _ _=>nU (K:=K) (n:=2))))))
  q0)))
 (q1<|qR (Đ 3)))))
 rintro _ _ @⟨p,mixed,A,R,B,s,p1,K1,pre,mz,az⟩;have p2:=((My.HY p).mp pre.prime).1;refine⟨rfl,.inl<|.nx ⟨⟨⟨rfl,rfl⟩,by simp,rfl⟩,⟨⟨rfl,rfl⟩,M0.m⟩,⟨mz⟩⟩ (.nx ⟨⟨⟨rfl,rfl⟩,by simp,rfl⟩,⟨⟨rfl,rfl⟩,M0.m⟩,⟨az⟩⟩ ?_)⟩;refine eZ A.zipIdx (u:=λz=>.tup [.int (z.2:Nat),wB CE R B z.1]) (λi ε=>∃ o5 o6 o7 o8,ε=[.fz<|fD C p,.fz<|rw mixed,.fz<|.lst (A.map<|wB CE R B),.fz<|rw (Mk.MZ p mixed A s i).1,.fz<|rw (Mk.MZ p mixed A s i).2,o5,o6,o7,o8]) ⟨_,_,_,_,by unfold Mk.MZ;rw[jT,jT];rfl⟩ ⟨_,⟨rfl,rfl⟩,by rw[List.zipIdx_map,DL];rfl⟩ (λn z ε hz gR=>?_) λε gR=>?_
 ·obtain⟨o5,o6,o7,o8,he⟩:=gR;rw[List.getElem?_zipIdx,Nat.zero_add]at hz;obtain⟨a,ea,rfl⟩:=EG.mp hz;subst he;have hn:n<A.length:=(DJ.mp ea).1;have am:=DO ea;have I:=Mk.PX pre n (by omega);have st:Mk.MZ p mixed A s (n+1)=Mk.MF p mixed A s (Mk.MZ p mixed A s n) n:=rfl;have ega:A.getD n (0,0,0)=a:=by rw[DG,ea];rfl
  unfold Mk.MF Mk.RC at st;rw[ega]at st;rw[st];clear st;generalize Mk.MZ p mixed A s n=M at I;have rd:=eq_int (ε:=[some<|fD C p,some<|rw mixed,some<|.lst (A.map<|wB CE R B),some<|rw M.1,some<|rw M.2,some<|.int n,some<|wB CE R B a,o7.a,o8.a]) (ra:=rO Sub (rV 4)<|rV 5) (rb:=rC<|.int 0) ⟨rfl,rfl,.l .lst<|dm (by rw[I.l2];exact hn)⟩ rfl;refine⟨_,⟨_,rfl,rfl,rfl⟩,?_⟩;by_cases c0:M.2.getD n 0=0
  ·rw[DM c0]at rd;rw[if_neg λz=>z c0];have tl:((M.2.take n).length:Int)<p:=by rw[E4];have:=pre.IX;omega
   have tz:∀ u∈M.2.take n,¬ p ∣ u:=λu hu=>by obtain⟨i,hi,rfl⟩:=EA.mp hu;rw[List.getElem_take];rw[E4]at hi;have z1:=I.nz i (by omega);have z2:=Mk.MM (by omega) I.f2 i;rw[DG,DF<|show i<M.2.length by omega]at z1 z2;simp only[Option.getD_some]at z1 z2;intro z;have:=Hf (by omega) z;omega
   have u3:=(Mk.Rn pre.prime (ss:=A.map λb=>s b a.2.2) tl tz).2.2;have ub:=LL.mk (C:=C) (ss:=A.map λb=>s b a.2.2) pre.prime p1 tl (by rw[E4];omega) tz λu hu=>I.f2 u<|GD hu;generalize Mk.ub p (M.2.take n) (A.map λb=>s b a.2.2)=o at u3 ub ⊢;refine⟨_,.t rd<|.nx ⟨dj (xs:=A) (u:=wB CE R B) (h:=λb=>.int<|s b a.2.2) (d:=rw (A.map λb=>s b a.2.2)) ⟨rfl,.l .lst⟩ az (λb hb=>⟨_,⟨rfl,rfl⟩,rfl,by decide,⟨rfl,rfl,⟨rfl,rfl,.t rfl⟩,rfl⟩,by rw[K1.sh b hb];exact⟨by omega,p1,K1.has b hb a am,K1.pl b hb,(K1.fit b hb).1,(K1.fit b hb).2⟩⟩)<|Fl.rt.inj (P9 _ _)⟩ (.nx ⟨⟨rfl,⟨rfl,.lst,rfl,⟨rfl⟩,by rw[cR,<- FR]⟩,rfl,rfl⟩,ub⟩<|.nx ⟨dj (xs:=mixed.zip M.1) (u:=λz=>.tup [.int z.1,.int z.2]) (h:=λz=>.int<|((o:Int) * z.2+if z.1=a.2.2 then 1 else 0) % p) ⟨_,_,⟨rfl,rfl,rfl⟩,iH _ _⟩ (by rw[Fd];omega) (λz hz=>⟨_,⟨rfl,rfl⟩,rfl,by decide,⟨⟨⟨rfl,rfl,⟨.inl ⟨by omega,by omega⟩⟩⟩,?_,.i⟩,rfl⟩,⟨by omega⟩⟩) ?_⟩ ⟨dj (xs:=M.2.zip<|A.map λb=>s b a.2.2) (u:=λz=>.tup [.int z.1,.int z.2]) (d:=rw (List.zipWith (λv x=>((o:Int) * v+x) % p) M.2<|A.map λb=>s b a.2.2)) ⟨_,_,⟨rfl,rfl,rfl⟩,iH _ _⟩ (by rw[Fd,I.l2];omega) (λz hz=>⟨_,⟨rfl,rfl⟩,rfl,by decide,⟨⟨⟨rfl,rfl,⟨.inl ⟨by omega,by omega⟩⟩⟩,rfl,.i⟩,rfl⟩,⟨by omega⟩⟩) ?_⟩),_,_,_,_,rfl⟩
   ·have r1:=eq_int (ε:=[some<|.int z.1,some<|.int z.2,some<|fD C p,some<|wB CE R B a,some<|.int o]) (ra:=rV 0) (rb:=rO Sub (rV 3)<|rC (.int 2)) rfl ⟨rfl,rfl,.t rfl⟩;by_cases e:z.1=a.2.2
    ·rw[DM e]at r1;rw[if_pos e];exact .t r1 rfl
    ·rw[DQ e]at r1;rw[if_neg e];exact .f r1 rfl
   ·rw[<- Fb];exact Fl.rt.inj (P9 _ _)
   ·rw[<- Fb];exact Fl.rt.inj (P9 _ _)
  ·rw[DQ c0]at rd;rw[if_pos c0];exact⟨_,.f rd rfl,_,_,_,_,rfl⟩
 ·obtain⟨o5,o6,o7,o8,he⟩:=gR;subst he;rw[List.length_zipIdx];exact⟨rfl,rfl⟩
end
open L2.Wy
section
variable {w:World}{c:Cl}{C:Addr}
theorem Ur {α:Type}{u:α->D}{J:Ù}(xs:List α)(I:Õ)(h0:I 0 ε)(hl:ri (ε.map Sl.z) (xs.map u))(k:∀ i x ε,xs[i]?=some x->I i ε->∃ ε1,q (u x) ε ε1/\∃ ε2,rb ε1 (.nx ε2)/\I (i+1) ε2)(fin:∀ ε',I xs.length ε'->∃ ε2,r2 ε' (.nx ε2)/\J ε2):∃ ε',nS (mf ri q rb) r2 ε (.nx ε')/\J ε':=
 let ⟨ε',h1,h2⟩:=xM xs I h0 hl k;let ⟨ε2,h3,h4⟩:=fin ε' h2
 ⟨ε2,.nx h1 h3,h4⟩
inductive pH (c:Cl):Ä
 |mk {S:NS}:S.HM.length<=1000->pH c [aI c S,.int 0] (tb [[]])
noncomputable abbrev kX:Stmt:=top 69
theorem NU:ae ["net","falls","numbers","told","longest","turn"] ["net","falls"] (a8 kX):=IM
theorem xo (F:Iy K "choices" "choices" kX f fd)(T:Dy mg)(HV:Dm P w K mg base 1 c.IU "ties" Þ (Pr (kC c))):HP P w K mg base Ik 2 f fd ["net","falls"] (Pr (pH c)):=by
 have ND:=NU.nd;refine F.dv NU ?_ λHU A outer s H E hr=>(qC (SM (n:=0) (aP (i:=2) ND rfl rfl rfl (cS 1 [] ["tie"]) (ax<|gO (Đ 0) HV hr.m)
  (λ_ _ _ _ _=>pC 0)
  (λ_ _ _ _ _=>Lp)
  (λ_ _ _ _ _=>dS (ao hr) (Đ 0)<|dC aa)) rfl)
 (qC (qS (pS 3 ND (d7<|da (d7 HS).p HS).p) λ_ _ _ h=>h)
 (qC (qS (pS 4 ND (d7<|da (d7 HS).p HS).p) λ_ _ _ h=>h)
 (qC (qL E1 rfl (QN rfl T.Ir<|da (Đ 1) HS) (pN 5 ND) (aN 5)
  (qC qN
 (q1 qN)))
 (q1<|qR (Đ 3))))))
 rintro _ _ @⟨S,hl⟩;exact⟨rfl,.inl<|.nx ⟨aR ⟨⟨rfl,rfl,by decide,⟨hl⟩⟩,.l .lst⟩ hl λt _=>⟨_,rfl,rfl,rfl,.t rfl⟩⟩ (.nx ⟨⟨⟨⟨rfl,by simp,rfl⟩,rfl⟩,by simp,rfl⟩⟩<|.nx ⟨⟨⟨⟨rfl,by simp,rfl⟩,rfl⟩,by simp,rfl⟩⟩ (.nx (.mk ⟨0,by omega,⟨rfl,rfl⟩,rfl⟩ .done) ⟨rfl,rfl⟩))⟩
noncomputable def uD:Sum Ξ Θ->Θ
 | .inl _=>[]
 | .inr w=>w
noncomputable def bS (S:NS)(N m:Nat)(ks:Ξ):Δ:=S.J8.map λg=>uD (bx (aZ S.HM (some ks)) (S.Ji.map (·.1)) g N m)
noncomputable abbrev UO (t:Δ):D:=.lst (t.map tb)
noncomputable abbrev Rr (t:List Δ):D:=.lst (t.map UO)
inductive df (c:Cl):Ä
 |mk {S:NS}{m N:Nat}{ç:Θ}:ç.length<=1000->(∀ ks∈ç,R5 S (some ks) N/\∀ g∈S.J8,∃ w,bx (aZ S.HM (some ks)) (S.Ji.map (·.1)) g N m=.inr w)->S.Ia.length<=1000->1<=m->m<=1000->m * N+N<=1000->df c [aI c S,.int m,tb ç] (Rr (ç.map (bS S N m)))
noncomputable abbrev cJ:Stmt:=top 83
theorem Ke:ae ["net","many","chosen","listeners","told","choice","by_listener","listener","found"] ["net","many","chosen"] (a8 cJ):=IM
theorem jW (F:Iy K "ways_by_choice" "ways_by_choice" cJ f fd)(HN:Dm P w K mg base 2 c.IU "listeners" Þ (Pr (bB c)))(Na:Df P w K mg base 4 "ways" ä (Pr (KC c))):HP P w K mg base Ik 5 f fd ["net","many","chosen"] (Pr (df c)):=by
 have ND:=Ke.nd;refine F.dv Ke ?_ λHU A outer s H E hr=>(qC (qS (pS 3 ND<|gO (Đ 0) HN hr.m) λ_ _ _ h=>h)
 (qC (qO (pS 4 ND<|d7 HS) λ_ _ _ h=>h)
 (qC (PR E1 rfl (ax<|Đ 2) (pN 5 ND) (aN 5)
  (qC (qO (pS 6 ND<|d7 HS) λ_ _ _ h=>h)
 (qC (PR E1 rfl (ax<|Đ 3) (pN 7 ND) (aN 7)
  (qC (qS (pS 8 ND<|dF Na hr.m rfl (da (Đ 0)<|da (Đ 7) (da (Đ 1)<|da (Đ 5) HS))) λ_ _ _ h=>h)
 (qC (qI (dT bf cF (dS (ao hr) (Đ 8)<|dC aa)<|dC bX)
  (q1 qN)
  q0)
 (q1<|qA (aE<|Pz K Ek Ep Eo aO (pv 6) (a9 (dS (ao hr) (Đ 8)<|dC aa) D')) (λ_ _ _ h=>h)))))
 (qZ 6<|q1 (qA (aE<|Pz K Ek Ep Eo aO (pv 4) (a9 (Đ 6) D')) λ_ _ _ h=>h)))))
 (q1<|qR (Đ 4)))))
 rintro _ _ @⟨S,m,N,ç,hc,hw,hp,Uj,hm,hz⟩;have ll:S.J8.length<=1000:=by unfold NS.J8;rw[DH];exact Ei (Eh _ _) hp
 refine⟨rfl,.inl<|.nx ⟨rfl,rfl,by decide,⟨hp⟩⟩ (.nx ⟨⟨rfl,by simp,rfl⟩⟩ ?_)⟩;refine eZ ç (λi ε=>∃ o5 o6 o7 o8,ε=[.fz<|aI c S,.fz<|.int m,.fz<|tb ç,.fz<|bI S.J8,.ow<|Rr ((ç.take i).map<|bS S N m),o5,o6,o7,o8]) ⟨_,_,_,_,rfl⟩ ⟨rfl,.l .lst⟩ (λi ks ε hk gR=>?_) λε gR=>?_
 ·obtain⟨o5,o6,o7,o8,he⟩:=gR;subst he;obtain⟨O,W⟩:=hw ks<|DO hk;refine⟨_,rfl,oW ⟨⟨rfl,by simp,rfl⟩⟩ ?_⟩;refine Ur S.J8 (λj ε=>∃ o7 o8,ε=[.fz<|aI c S,.fz<|.int m,.fz<|tb ç,.fz<|bI S.J8,.ow<|Rr ((ç.take i).map<|bS S N m),.fz<|rw ks,.ow<|UO ((S.J8.take j).map λg=>uD<|bx (aZ S.HM<|some ks) (S.Ji.map (·.1)) g N m),o7,o8]) ⟨_,_,rfl⟩ ⟨rfl,.l .lst⟩ (λj g ε hg gR=>?_) λε gR=>?_
  ·obtain⟨o7,o8,he⟩:=gR;subst he;obtain⟨wy,Ug⟩:=W g<|DO hg;have jl:=(DJ.mp hg).1;have c1:=KC.mk (c:=c) O (DO hg) Uj hm hz;rw[Ug]at c1;have rd:=eq_str (ε:=[some<|aI c S,some<|.int m,some<|tb ç,some<|bI S.J8,some<|Rr ((ç.take i).map<|bS S N m),some<|rw ks,some<|UO ((S.J8.take j).map λg=>uD<|bx (aZ S.HM<|some ks) (S.Ji.map (·.1)) g N m),some<|.str g,some<|uC (.inr wy)]) (ra:=rO Sub (rV 8)<|rC (.int 0)) (rb:=rC<|.str "cut") ⟨rfl,rfl,.t rfl⟩ rfl;refine⟨_,rfl,_,.nx ⟨⟨rfl,rfl,rfl,rfl,rfl⟩,c1⟩<|.nx (.f rd rfl) ⟨rfl,by simp;omega,.z ⟨rfl,rfl,.t rfl⟩⟩,.fz<|.str g,.fz<|uC (.inr wy),?_⟩;rw[be hg,DP,DX,Fu,Ug,show UO (_++[uD<|.inr wy])=.lst (List.map tb _++[tb wy]) from congrArg D.lst DP];rfl
  ·obtain⟨o7,o8,he⟩:=gR;rw[Et]at he;subst he;refine⟨_,⟨_,rfl,rfl,by simp;omega,.z rfl⟩,.fz<|rw ks,.fz<|UO (bS S N m ks),o7,o8,?_⟩;rw[be hk,DP,DX,Fu,show Rr (_++[bS S N m ks])=.lst (List.map UO _++[UO<|bS S N m ks]) from congrArg D.lst DP];rfl
 ·obtain⟨_,_,_,_,he⟩:=gR;rw[Et]at he;subst he;exact⟨rfl,rfl⟩
inductive dA (c:Cl) (C:Addr) (Rm:Ä):Ä
 |mk {S:NS}{m N:Nat}{p:Int}{d:D}:My.JK p=true->p<=1000000->R5 S (some []) N->(∀ g∈S.J8,∃ w,bx (aZ S.HM (some [])) (S.Ji.map (·.1)) g N m=.inr w)->S.Ia.length<=1000->1<=m->m<=1000->m * N+N<=1000->(S.J8.length:Int)<=p->Rm [aI c S,.int m,fD C p,tb [[]],Rr [bS S N m []]] d->dA c C Rm [aI c S,.int m,.int p,.int 0] d
noncomputable abbrev jb:Stmt:=top 90
theorem Nl:ae ["net","many","prime","falls","field","chosen","found","needed"] ï (a8 jb):=IM
theorem v7 (F:JU K "plan_for" "plan_for" jb f fd)(T:jB mg)(IV:Dk P w K mg base 2 "Field" C ù (eJ C))(Nh:Df P w K mg base 2 "choices" ["net","falls"] (Pr (pH c)))(Js:Df P w K mg base 5 "ways_by_choice" ["net","many","chosen"] (Pr (df c)))(HN:Dm P w K mg base 2 c.IU "listeners" Þ (Pr (bB c)))(Ly:Df P w K mg base 6 "made_plan" ò (Pr Rm)):HP P w K mg base Ik 7 f fd ï (Pr (dA c C Rm)):=by
 have ND:=Nl.nd;refine JU.dv F Nl ?_ λHU A outer s H E hr=>(qC (qS (pS 4 ND<|BV IV hr.m rfl (da (Đ 2) HS)) λ_ _ _ h=>h)
 (qC (qS (pS 5 ND<|dF Nh hr.m rfl (da (Đ 0)<|da (Đ 3) HS)) λ_ _ _ h=>h)
 (qC (qS (pS 6 ND<|dF Js hr.m rfl (da (Đ 0)<|da (Đ 1) (da (Đ 5) HS))) λ_ _ _ h=>h)
 (qC (qS (pS 7 ND<|dO cC NB (dB b5 aG rfl T.IH boot_len<|da (gO (Đ 0) HN hr.m) HS) (dB b5 aG rfl T.IH boot_len<|da (Đ 5) HS)) λ_ _ _ h=>h)
 (qC (qI (dT lQ gr (Đ 2)<|Đ 7)
  (q1 qN)
  q0)
 (q1<|qR (dF Ly hr.m rfl<|da (Đ 0) (da (Đ 1)<|da (Đ 4) (da (Đ 5)<|da (Đ 6) HS)))))))))
 rintro _ _ @⟨S,m,N,p,d,hP,p1,O,W,hp,Uj,hm,hz,hl,M⟩;have rd:=lt_int (ε:=[some<|aI c S,some<|.int m,some<|.int p,some<|.int 0,some<|fD C p,some<|tb [[]],some<|Rr [bS S N m []],some<|.int (S.J8.length * (1:Nat):Int)]) (ra:=rV 2) (rb:=rV 7) rfl rfl;rw[DQ<|by omega]at rd;exact⟨rfl,.inl<|.nx ⟨⟨⟨rfl,rfl⟩,p1,hP,rfl⟩⟩ (.nx ⟨⟨rfl,rfl,rfl⟩,⟨O.tl⟩⟩<|.nx ⟨⟨rfl,rfl,rfl,rfl⟩,.mk (by simp) (λks h=>by rw[E5.mp h];exact⟨O,W⟩) hp Uj hm hz⟩ (.nx ⟨⟨⟨⟨rfl,rfl,by decide,⟨hp⟩⟩,rfl⟩,M0.m⟩,⟨⟨rfl,rfl⟩,M0.m⟩,⟨.inl ⟨by omega,by omega⟩⟩⟩<|.nx (.f rd rfl) ⟨⟨⟨rfl,rfl,rfl,rfl,rfl,rfl⟩,M⟩,rfl⟩))⟩
end
def PJ (d:Addr)(H H':Hp):Prop:=∀ a o,a≠d->H a=some o->H' a=some o
theorem PJ.of (e:f' H H'):PJ d H H':=λa o _ h=>e a o h
theorem PJ.trans (a:PJ d H H1)(b:PJ d H1 H2):PJ d H H2:=λc o n h=>b c o n (a c o n h)
noncomputable def NS.put (S:NS)(x:Str)(k:Kd):NS:={ S with Ia:=S.Ia++[(x,k)] }
theorem IZ.put (N:IZ c H n dp dt S)(hd:H dp=some (.dK ķ))(hp:Paired (λ(kv:Key×V) p=>kv.1=Sum.inr p.1/\Jr c H kv.2 p) ķ S.Ia)(pa:Jr c H (.ref a) p)(e:PJ dp H H')(Oi:H' dp=some (.dK (ķ++[(Sum.inr p.1,.ref a)]))):IZ c H' n dp dt (S.put p.1 p.2):=by
 obtain⟨⟨dx,h1⟩,_,⟨kt,h3,p3⟩,h4⟩:=N;have Qp:∀ {v:V}{q:Str×Kd},Jr c H v q->Jr c H' v q:=λgR=>by obtain⟨b,dxb,eb,hb⟩:=gR;exact⟨b,dxb,eb,e _ _ (cH hb hd λz=>nomatch z) hb⟩
 have RE:∀ {v:V}{t:IJ},KA H v t->KA H' v t:=λgR=>by obtain⟨b,eb,hb⟩:=gR;exact⟨b,eb,e _ _ (cH hb hd λz=>nomatch z) hb⟩
 exact⟨⟨dx,e _ _ (cH h1 hd λz=>nomatch z) h1⟩,⟨_,Oi,Paired.Mq (Paired.JD hp λ_ _ gR=>(by obtain⟨x,y⟩:=gR;exact⟨x,Qp y⟩)) ⟨rfl,Qp pa⟩⟩,⟨kt,e _ _ (Ne.symm h4) h3,Paired.JD p3 λ_ _ gR=>(by obtain⟨x,y⟩:=gR;exact⟨x,RE y⟩)⟩,h4⟩
theorem kx {f:α->Key}{g:α->D}:∀ {ķ:ξ}{l:List α},Paired (λ(kv:Key×V) x=>kv.1=f x/\DR H (g x) kv.2) ķ l->ķ.map (·.1)=(l.map λx=>(f x,g x)).map (·.1)/\Ij H ((l.map λx=>(f x,g x)).map (·.2)) (ķ.map (·.2))
 | _,_,.nil=>⟨rfl,rfl⟩
 | _,_,.cons ⟨a,b⟩ r=>let ⟨h1,h2⟩:=kx r;⟨by rw[DX,DX,DX,h1,a],_,_,rfl,b,h2⟩
theorem Jr.dr (h:Jr c H v p):DR H (gI c p) v:=let ⟨a,dx,e,q⟩:=h;⟨a,dx,_,e,q,rfl,_,_,rfl,rfl,rfl⟩
theorem KA.dr (h:KA H v t):DR H (bO t) v:=let ⟨a,e,q⟩:=h;⟨a,_,e,q,_,_,rfl,rfl,_,_,rfl,rfl,_,_,rfl,rfl,_,_,rfl,rfl,rfl⟩
theorem IZ.dr (N:IZ c H n dp dt S):DR H (aI c S) (.ref n):=by obtain⟨⟨dx,h1⟩,⟨kp,h2,p2⟩,⟨kt,h3,p3⟩,_⟩:=N;have a:=kx<|Paired.JD p2 λ_ _ gR=>(by obtain⟨a,b⟩:=gR;exact⟨a,b.dr⟩);have b:=kx<|Paired.JD p3 λ_ _ gR=>(by obtain⟨a,b⟩:=gR;exact⟨a,b.dr⟩);exact⟨n,dx,_,rfl,h1,rfl,_,_,rfl,⟨dp,kp,rfl,.inl h2,a.1,a.2⟩,_,_,rfl,⟨dt,kt,rfl,.inl h3,b.1,b.2⟩,_,_,rfl,rfl,rfl⟩
theorem pr (hl:Ij H l vs)(hR:R l d)(q:∀ x H',f' H H'->DR H' d x->Q x H'):Pr R vs H Q E0:=⟨H,l,d,f'.refl _,hl,hR,λx H' e h=>q x H' e<|h.mono (aJ (f'.refl _) e)⟩
theorem So (h:DR H d v):Ij H [d] [v]:=⟨_,_,rfl,h,rfl⟩
theorem dr2 (h:DR H d v)(h':DR H d' v'):Ij H [d,d'] [v,v']:=⟨_,_,rfl,h,_,_,rfl,h',rfl⟩
noncomputable def Dj (S:NS)(k:Kd):Bool:=decide (20<=S.Ia.length) || (Xn k&&decide (8<=S.J8.length))
inductive du (c:Cl)  (vs:π) (H:Hp) (Q:VK) (E:XK):Prop
 |mk (n dp dt a:Addr) (S:NS) (p:Str×Kd):vs=[.ref n,.ref a]->IZ c H n dp dt S->Jr c H (.ref a) p->¬ p.1∈S.names->S.Ia.length<=1000->Dj S p.2=false->(∀ H',PJ dp H H'->IZ c H' n dp dt (S.put p.1 p.2)->Q .non H')->du c vs H Q E
noncomputable abbrev ga:Stmt:=aF (top 32) 5
theorem LY:ae þ þ (a8 ga):=IM
theorem pZ (F:Iy K "put_in" "Net.put_in" ga f fd)(O:Cl.Ok K c)(T:jB mg)(TG:DA mg)(LO:∀ C,jH c C->Dm P w K mg base 1 C "reads" Þ (Pr (iS (decide (C=c.LS)))))(HN:Dm P w K mg base 2 c.IU "listeners" Þ (Pr (bB c))):HP P w K mg base Ik 3 f fd þ (du c):=by
 obtain⟨tl,Oh⟩:=TG.mop;obtain⟨tn,MJ⟩:=TG.mol;refine F.k LY λHU A outer s H vs Q E hr h=>?_
 ·obtain⟨n,dp,dt,a,S,p,rfl,N,pa,Ka,hz,q1,q2⟩:=h;obtain⟨dx,h1⟩:=id N.ins;obtain⟨ķ,hd,hp⟩:=id N.Ia;obtain⟨a',dxa,ea,ha⟩:=id pa
  cases ea;have hl:=Paired.length hp;refine⟨_,(aj (io (pT Bh (bQ lX rfl T.IH boot_len<|a9 (vY K (pv 0) rfl) D')<|gk (v:=.int 20) rfl Oh ⟨_,rfl⟩)
  (ar JN)
  Jb)
 (aj (io (PW.pt<|AZ (cf<|qz (pv 1) LO hr.m) (gf<|pT Bh (bQ (Vs K) rfl T.IH boot_len<|a9 (qy (pv 0) HN hr.m) D') (gk (v:=.int 8) rfl MJ ⟨_,rfl⟩)))
  (ar JN)
  Jb)
 (ar<|cA (ao hr) (vY K (pv 0) rfl) (vY K (pv 1) rfl) (pv 1) rfl))),?_⟩
  have store:∀ H1,f' H H1->∃ a_1 H4,V.ref dp=V.ref a_1/\Oo H1 a_1 (.str p.1) (.ref a) H4/\Q .non H4:=λH1 e1=>by
   have hv:cu ķ (Sum.inr p.1)=none:=by
    cases hs:cu ķ (Sum.inr p.1) with
    | none=>rfl
    | some v=>
     have:=(kx<|Paired.JD hp λ_ _ gR=>(by obtain⟨a,b⟩:=gR;exact⟨a,b.dr⟩))
     have h2:=(Ij.val (y:=.inr p.1) this.1 this.2).1;have h3:=kh (c:=c) (S:=S) (x:=p.1);rw[DQ Ka]at h3;rw[h2<|Option.not_isSome_iff_eq_none.mp (by rw[h3];exact nofun)]at hs
     cases hs
   refine⟨dp,_,rfl,Oo.k (k:=Sum.inr p.1) (e1 _ _ hd) (by show ķ.length<2 ^ 24;omega),?_⟩;have b1:PJ dp H (upd H1 dp<|.dK (cO ķ (Sum.inr p.1)<|.ref a)):=λb o nb hb=>by rw[ab nb];exact e1 _ _ hb
   exact q2 _ b1 (N.put hd hp pa b1<|by rw[ag,im _ hv])
  unfold Dj at q1;rw[Bool.or_eq_false_iff,Bool.and_eq_false_iff]at q1;obtain⟨g0,g2⟩:=q1;have g0:=of_decide_eq_false g0;refine⟨_,rfl,n,c.IU,dx,_,_,rfl,h1,O.cn,O.fp,rfl,dp,ķ,rfl,hd,_,_,rfl,rfl,_,rfl,mH (λg1=>?_) (λg1=>?_)⟩
  ·have g1:20<=S.Ia.length:=by have:=DZ g1;omega
   exact absurd g1 g0
  ·refine⟨_,rfl,a,c.of p.2,dxa,_,rfl,⟨_,rfl⟩,ha,rfl,pr (So pa.dr) ⟨⟩ λx H1 e1 hx=>⟨_,hx,?_⟩⟩;rw[ik O]
   cases hb:Xn p.2 with
   | false=>exact vM (vM ⟨_,rfl,_,rfl,n,c.IU,dx,_,_,rfl,e1 _ _ h1,O.cn,O.fp,rfl,_,rfl,a,c.of p.2,dxa,_,_,rfl,e1 _ _ ha,O.cls _,O.SS _,rfl,store H1 e1⟩)
   | true=>
    refine BF ⟨_,rfl,n,dx,_,rfl,e1 _ _ h1,rfl,pr (So (N.mono e1).dr) ⟨hz⟩ λy H2 e2 gR=>?_⟩;obtain⟨l,vs,ey,MU,hv⟩:=gR;subst ey;have vl:=hv.length;have Py:=e1.trans e2;refine⟨l,_,rfl,.inl<|Il.of MU,_,_,rfl,rfl,_,rfl,mH (λg3=>?_) λg3=>⟨_,rfl,_,rfl,n,c.IU,dx,_,_,rfl,Py _ _ h1,O.cn,O.fp,rfl,_,rfl,a,c.of p.2,dxa,_,_,rfl,Py _ _ ha,O.cls _,O.SS _,rfl,store H2 Py⟩⟩;have g3:8<=S.J8.length:=by have:=DZ g3;rw[vl,DH]at this;omega
    rcases g2 with z|z
    ·rw[hb]at z;cases z
    ·exact absurd g3 (of_decide_eq_false z)
def may (S:NS)(x:Str)(k:Kd):Prop:=jr x=true/\¬ x∈S.names/\¬ (Sf k=false/\S.Ji.isSome=true)/\Dj S k=false
inductive gX (c:Cl) (k:Kd)  (vs:π) (H:Hp) (Q:VK) (E:XK):Prop
 |mk (n dp dt:Addr) (S:NS) (x:Str):vs=[.ref n,.str x]->IZ c H n dp dt S->x.length<=1000->S.Ia.length<=1000->may S x k->(∀ H',PJ dp H H'->IZ c H' n dp dt (S.put x k)->Q .non H')->gX c k vs H Q E
theorem made (N:IZ c H n dp dt S)(hz:S.Ia.length<=1000)(hm:may S x k)(q2:∀ H',PJ dp H H'->IZ c H' n dp dt (S.put x k)->Q .non H')(y dy:Addr)(ny:H y=none)(Vh:H dy=none)(ne:dy≠y):
  du c [.ref n,.ref y] (upd (upd (upd H dy (.own y)) y (.ins (c.of k) dy [])) y (.ins (c.of k) dy [("name",.str x)])) Q E:=by
 have e1:f' H (upd (upd (upd H dy<|.own y) y<|.ins (c.of k) dy []) y<|.ins (c.of k) dy [("name",.str x)]):=aW (aW (aV (f'.refl _) Vh) ny) ny;exact⟨n,dp,dt,y,S,(x,k),rfl,N.mono e1,⟨y,dy,rfl,ag⟩,hm.2.1,hz,hm.2.2.2,λH' b' N'=>q2 H' ((PJ.of e1).trans b') N'⟩
noncomputable abbrev jg:Stmt:=aF (top 32) 2
theorem uO:ae Ü Ü (a8 jg):=IM
theorem ve (F:Iy K "post" "Net.post" jg f fd)(O:Cl.Ok K c)(HW:Dm P w K mg base 2 c.IU "check_new_name" Ü (Pr (bH c)))(IF:Dm P w K mg base 3 c.IU "put_in" þ (du c))(Qc:Dk P w K mg base 1 "Post" c.post Ü (gW c)):HP P w K mg base Ik 4 f fd Ü (gX c .post):=by
 refine F.k uO λHU A _ s H vs Q E hr h=>?_
 ·obtain⟨n,dp,dt,S,x,rfl,N,hx,hz,hm,q2⟩:=h;obtain⟨dx,h1⟩:=id N.ins;refine⟨_,(aj (aE<|bE (pv 0) HW hr.m (a9 (pv 1) D'))
 (ar<|aE (bE (pv 0) IF hr.m<|a9 (ir Qc hr.m rfl<|a9 (pv 1) D') D'))),?_⟩
  refine⟨_,rfl,n,dx,_,rfl,h1,rfl,_,rfl,pr (dr2 N.dr (d':=.str x) rfl) ⟨hx,hm.1,hm.2.1⟩ λ_ H1 e1 _=>?_⟩;refine⟨_,rfl,n,dx,_,rfl,e1 _ _ h1,rfl,_,rfl,λy dy ny Vh ne=>⟨y,.post,dy,x,rfl,ag,rfl,?_⟩⟩;exact made (Q:=λ_ H2=>Q .non H2) (N.mono e1) hz hm (λH' b' N'=>q2 H' ((PJ.of e1).trans b') N') y dy ny Vh ne
noncomputable abbrev dR:Stmt:=aF (top 32) 3
theorem m7:ae Ü Ü (a8 dR):=IM
theorem mF (F:Iy K "listener" "Net.listener" dR f fd)(O:Cl.Ok K c)(HW:Dm P w K mg base 2 c.IU "check_new_name" Ü (Pr (bH c)))(IF:Dm P w K mg base 3 c.IU "put_in" þ (du c))(Mn:Dk P w K mg base 1 "Listener" c.LS Ü (gW c)):HP P w K mg base Ik 4 f fd Ü (gX c .listener):=by
 refine F.k m7 λHU A _ s H vs Q E hr h=>?_
 ·obtain⟨n,dp,dt,S,x,rfl,N,hx,hz,hm,q2⟩:=h;obtain⟨dx,h1⟩:=id N.ins;refine⟨_,(aj (aE<|bE (pv 0) HW hr.m (a9 (pv 1) D'))
 (ar<|aE (bE (pv 0) IF hr.m<|a9 (ir Mn hr.m rfl<|a9 (pv 1) D') D'))),?_⟩
  refine⟨_,rfl,n,dx,_,rfl,h1,rfl,_,rfl,pr (dr2 N.dr (d':=.str x) rfl) ⟨hx,hm.1,hm.2.1⟩ λ_ H1 e1 _=>?_⟩;refine⟨_,rfl,n,dx,_,rfl,e1 _ _ h1,rfl,_,rfl,λy dy ny Vh ne=>⟨y,.listener,dy,x,rfl,ag,rfl,?_⟩⟩;exact made (Q:=λ_ H2=>Q .non H2) (N.mono e1) hz hm (λH' b' N'=>q2 H' ((PJ.of e1).trans b') N') y dy ny Vh ne
noncomputable abbrev ia:Stmt:=aF (top 32) 1
theorem sI:ae Ü Ü (a8 ia):=IM
theorem tR (F:Iy K "house" "Net.house" ia f fd)(O:Cl.Ok K c)(HW:Dm P w K mg base 2 c.IU "check_new_name" Ü (Pr (bH c)))(IF:Dm P w K mg base 3 c.IU "put_in" þ (du c))(IT:Dm P w K mg base 2 c.IU "home" Þ (Pr (wG c)))(P8:Dk P w K mg base 1 "House" c.house Ü (gW c)):HP P w K mg base Ik 4 f fd Ü (gX c .house):=by
 refine F.k sI λHU A _ s H vs Q E hr h=>?_
 ·obtain⟨n,dp,dt,S,x,rfl,N,hx,hz,hm,q2⟩:=h;obtain⟨dx,h1⟩:=id N.ins;refine⟨_,(aj (aE<|bE (pv 0) HW hr.m (a9 (pv 1) D'))
 (aj (io (pT gp (qy (pv 0) IT hr.m) b6)
  (ar JN)
  Jb)
 (ar<|aE (bE (pv 0) IF hr.m<|a9 (ir P8 hr.m rfl<|a9 (pv 1) D') D')))),?_⟩
  refine⟨_,rfl,n,dx,_,rfl,h1,rfl,_,rfl,pr (dr2 N.dr (d':=.str x) rfl) ⟨hx,hm.1,hm.2.1⟩ λ_ H1 e1 _=>?_⟩;refine⟨_,rfl,n,dx,_,rfl,e1 _ _ h1,rfl,pr (So (N.mono e1).dr) ⟨⟩ λhv H2 e2 hx2=>?_⟩
  cases hs:S.Ji with
  | some p=>exact absurd ⟨rfl,by rw[hs];rfl⟩ hm.2.2.1
  | none=>
   rw[hs]at hx2
   cases hx2;have e1:=e1.trans e2;refine⟨rfl,_,rfl,Y3 rfl ?_⟩;refine⟨_,rfl,n,dx,_,rfl,e1 _ _ h1,rfl,_,rfl,λy dy ny Vh ne=>⟨y,.house,dy,x,rfl,ag,rfl,?_⟩⟩;exact made (Q:=λ_ H2=>Q .non H2) (N.mono e1) hz hm (λH' b' N'=>q2 H' ((PJ.of e1).trans b') N') y dy ny Vh ne
structure Dz (mg:Ω):Prop where
 Jj:mg "isinstance"=none
 U8:mg "int"=none
 RB:mg "bool"=none
 IH:mg "len"=none
structure Wk (mg:Ω):Prop where
 mot:∃ t,mg "MOST_TIES"=some (.int 40 t)
 lod:∃ t,mg "LONGEST_DELAY"=some (.int 99 t)
structure Wj (K:Ψ):Prop where
 ii:W.kitOne K (.type "int") (.type "int")=some true
 ib:W.kitOne K (.type "int") (.type "bool")=some false
noncomputable def NS.QB (S:NS)(x y:Str)(d:Int):NS:={ S with HM:=S.HM++[(S.next,x,y,d)],next:=S.next+1 }
def DD (n d:Addr)(H H':Hp):Prop:=∀ a o,a≠n->a≠d->H a=some o->H' a=some o
theorem dr3 (h:DR H d v)(h':DR H d' v')(h2:DR H d2 v2):Ij H [d,d',d2] [v,v',v2]:=⟨_,_,rfl,h,dr2 h' h2⟩
noncomputable def uI:Sp:=λvs H Q _=>∃ i:Int,vs=[.int i]/\Q (.bl true) H
noncomputable abbrev g8:Stmt:=top 25
theorem uL:ae û û (a8 g8):=IM
theorem tJ (F:Iy K "is_whole" "is_whole" g8 f fd)(T:Dz mg)(TI:Wj K):HP P w K mg base Ik 1 f fd û uI:=by
 refine F.k uL λHU A _ s H vs Q E hr h=>?_
 ·obtain⟨i,rfl,q⟩:=h;refine⟨_,ar<|bJ (xc (bQ (VB K) rfl T.Jj de<|a9 (pv 0) (a9 (t8 (v:=.ty "int") rfl T.U8 boot_int rfl) D'))<|jk (V6<|bQ (VB K) rfl T.Jj de (a9 (pv 0)<|a9 (t8 (v:=.ty "bool") rfl T.RB boot_bool rfl) D'))),?_⟩;exact⟨_,rfl,.int i,_,_,_,rfl,.int i,TI.ii,_,rfl,BF ⟨_,rfl,.int i,_,_,_,rfl,.int i,TI.ib,_,rfl,q⟩⟩
theorem v9 (F:Iy K "is_whole" "is_whole" g8 f fd)(T:Dz mg)(TI:Wj K):HP P w K mg base Ik 1 f fd û (Pr iQ):=(tJ F T TI).imp λvs H Q E gR=>by
 obtain⟨F,_,_,s,h,r,q⟩:=gR
 cases r;obtain⟨v,ws,rfl,rfl,rfl⟩:=h;exact⟨_,rfl,q _ H (f'.refl _) rfl⟩
theorem vb (F:Iy K "is_name" "is_name" iI f fd)(T:jB mg)(TG:DA mg)(TK:Wi K):HP P w K mg base Ik 1 f fd ["name"] (Pr MS):=(xj F T TG TK).imp λvs H Q E gR=>by obtain⟨F,_,_,s,h,r,q⟩:=gR;obtain⟨hx⟩:=r;obtain⟨v,ws,rfl,rfl,rfl⟩:=h;exact⟨_,rfl,hx,λH' e=>q _ H' e rfl⟩
inductive lG:Ä
 |mk {n:Int}:1<=n->n<=99->lG [.int n] (.bl true)
noncomputable abbrev je:Stmt:=top 26
theorem uM:ae û û (a8 je):=IM
theorem vc (F:Iy K "is_delay" "is_delay" je f fd)(TH:Wk mg)(Ju:Df P w K mg base 1 "is_whole" û (Pr iQ)):HP P w K mg base Ik 2 f fd û (Pr lG):=by
 obtain⟨tl,N3⟩:=TH.lod;refine F.dv uM ?_ λHU A _ s H E hr=>(q1<|qR (BW (dF Ju hr.m rfl<|da (Đ 0) HS)<|jk (dCh (nY qB qB (dC aa) (Đ 0)<|dC (gk (v:=.int 99) rfl N3 ⟨_,rfl⟩)) gr gr)))
 rintro _ _ @⟨n,h0,h1⟩;exact⟨rfl,.inl ⟨.t ⟨⟨rfl,rfl⟩,⟨⟩⟩<|.t rfl rfl (by have:=fI.mk (C:=λ_ _=>True) (g:=λi j=>PV<|.bl (decide (i<=j))) (i:=1) (j:=n) trivial;rwa [DM h0]at this) rfl (by have:=fI.mk (C:=λ_ _=>True) (g:=λi j=>PV<|.bl (decide (i<=j))) (i:=n) (j:=99) trivial;rwa [DM h1]at this),rfl⟩⟩
inductive sv (c:Cl)  (vs:π) (H:Hp) (Q:VK) (E:XK):Prop
 |mk (n dp dt:Addr) (S:NS) (x y:Str) (d:Int):vs=[.ref n,.str x,.str y,.int d]->IZ c H n dp dt S->x∈S.names->y∈S.names->(∀ t∈S.HM,t.1<S.next)->(∀ p∈S.Ia,p.1=y->Sf p.2=true)->¬ iY S.HM y x->1<=d->d<=99->S.HM.length<40->(∀ H',DD n dt H H'->IZ c H' n dp dt (S.QB x y d)->Q (.int S.next) H')->sv c vs H Q E
noncomputable abbrev kZ:Stmt:=aF (top 32) 6
theorem NX:ae ["self","one","other","delay","number"] ó (a8 kZ):=IM
theorem xq (F:JU K "tie" "Net.tie" kZ f fd)(O:Cl.Ok K c)(T:Dz mg)(TH:Wk mg)(Jv:Dm P w K mg base 2 c.IU "check_ends" à (Pr (iF c)))(Mj:Df P w K mg base 2 "is_delay" û (Pr lG)):
  HP P w K mg base Ik 3 f fd ó (sv c):=by
 obtain⟨tl,OV⟩:=TH.mot;refine F.k NX λHU A outer s H vs Q E hr h=>?_
 ·obtain⟨n,dp,dt,S,x,y,d,rfl,N,hx,hy,a2c,hb,hL,hi1,hi2,g,q5⟩:=h;have ND:=NX.nd;obtain⟨dx,h1⟩:=id N.ins;obtain⟨ķ,hd,hp⟩:=id N.HM;have hl:=Paired.length hp;refine⟨_,(aj (aE<|bE (pv 0) Jv hr.m (a9 (pv 1)<|a9 (pv 2) D'))
 (aj (io (sX<|cf (b7 Mj hr.m rfl<|a9 (pv 3) D'))
  (ar JN)
  Jb)
 (aj (io (pT Bh (bQ lX rfl T.IH boot_len<|a9 (vY K (pv 0) rfl) D')<|gk (v:=.int 40) rfl OV ⟨_,rfl⟩)
  (ar JN)
  Jb)
 (aj (pS 4 ND<|vY K (pv 0) rfl)
 (aj (cA (ao hr) (vY K (pv 0) rfl) (pv 4) (eM<|a9 (pv 4) (a9 (pv 1)<|a9 (pv 2) (a9 (pv 3) D'))) rfl)
 (aj (gh (pv 0) (bM lf (pv 4) aa) rfl)
 (ar<|bJ (pv 4)))))))),?_⟩
  refine⟨_,rfl,n,dx,_,rfl,h1,rfl,_,rfl,_,rfl,pr (dr3 N.dr (d':=.str x) (d2:=.str y) rfl rfl) ⟨hx,hy,by omega,hb,hL⟩ λ_ H0 e0 _=>?_⟩;refine⟨_,rfl,pr (So (d:=.int d) rfl) ⟨hi1,hi2⟩ λ_ H1 e1 hv=>⟨_,hv,vM ?_⟩⟩;have e1:=e0.trans e1;refine⟨_,rfl,n,c.IU,dx,_,_,rfl,e1 _ _ h1,O.cn,O.ft,rfl,dt,ķ,rfl,e1 _ _ hd,_,_,rfl,rfl,_,rfl,mH (λz=>?_) (λ_=>?_)⟩
  ·have:=DZ z;omega
  refine⟨_,rfl,n,c.IU,dx,_,_,rfl,e1 _ _ h1,O.cn,O.fn,rfl,?_⟩;refine⟨_,rfl,_,rfl,_,rfl,_,rfl,(by show 4<=sizeLine;decide),λtp H2 e2 h02 Sb=>?_⟩;have Py:=e1.trans e2;have hv:cu ķ (Sum.inl S.next)=none:=by
   cases hs:cu ķ (Sum.inl S.next) with
   | none=>rfl
   | some v=>
    have:=(kx<|Paired.JD hp λ_ _ gR=>(by obtain⟨a,b⟩:=gR;exact⟨a,b.dr⟩))
    have h2:=(Ij.val (y:=.inl S.next) this.1 this.2).1;rw[h2 (Option.not_isSome_iff_eq_none.mp λz=>by rw[VT,FC]at z;obtain⟨t,ht,et⟩:=DI.mp z;have:=a2c t ht;omega)]at hs
    cases hs
  have nnt:=cH h1 hd λz=>nomatch z;refine⟨_,rfl,n,c.IU,dx,_,_,rfl,Py _ _ h1,O.cn,O.ft,rfl,_,rfl,dt,_,rfl,Oo.k (k:=Sum.inl S.next) (Py _ _ hd) (by show ķ.length<2 ^ 24;omega),?_⟩;rw[im _ hv];refine⟨_,rfl,_,_,rfl,rfl,_,rfl,n,c.IU,dx,_,rfl,by rw[ab nnt];exact Py _ _ h1,O.cn,O.fn,(by show 3<1000;decide),?_⟩;have b2:DD n dt H (upd (upd H2 dt<|.dK (ķ++[(Sum.inl S.next,.ref tp)])) n<|.ins c.IU dx [("kept_posts",.ref dp),("kept_ties",.ref dt),("next_number",.int<|S.next+1)]):=λa o na nd ha=>by rw[ab na,ab nd];exact Py _ _ ha
  refine⟨_,rfl,q5 _ b2 ?_⟩;obtain⟨_,⟨kp,h2,p2⟩,_,h4⟩:=N;have Qp:∀ {v:V}{q:Str×Kd},Jr c H v q->v≠.ref n->Jr c _ v q:=λ{v q} gR Qt=>by obtain⟨b,dxb,eb,hb⟩:=gR;exact⟨b,dxb,eb,b2 b _ (λz=>Qt<|by rw[eb,z]) (cH hb hd λz=>nomatch z) hb⟩
  have RE:∀ {v:V}{t:IJ},KA H v t->KA _ v t:=λ{v t} gR=>by obtain⟨b,eb,hb⟩:=gR;exact⟨b,eb,b2 b _ (cH hb h1 λz=>nomatch z) (cH hb hd λz=>nomatch z) hb⟩
  have ntp:=(aq (e1 _ _ h1) h02).symm;have ntd:=(aq (e1 _ _ hd) h02).symm;refine⟨⟨dx,ag⟩,⟨kp,b2 dp _ (cH h2 h1 λz=>nomatch z) h4 h2,Paired.JD p2 λkv p ⟨a1,a2⟩=>⟨a1,Qp a2 ?_⟩⟩,⟨ķ++[(Sum.inl S.next,.ref tp)],by rw[ab nnt.symm];exact ag,Paired.Mq (Paired.JD hp λ_ _ gR=>(by obtain⟨a1,a2⟩:=gR;exact⟨a1,RE a2⟩)) ⟨rfl,tp,rfl,?_⟩⟩,h4⟩
  ·obtain⟨b,dxb,eb,Oc⟩:=a2;rintro z;rw[z]at eb
   cases eb;rw[h1]at Oc;injection Oc with Oc;injection Oc with _ _ Oc
   cases Oc
  ·rw[ab ntp,ab ntd];exact Sb
end K92
namespace My
noncomputable def mS (p:Nat)(L:Θ):Θ:=L.flatMap λr=>(List.range p).map λ(k:Nat)=>r++[(k:Int)]
noncomputable def msgs (p:Nat):Nat->Θ
 | 0=>[[]]
 | n+1=>mS p (msgs p n)
theorem OO:∀ {n:Nat}{r:Ξ},r∈msgs p n->r.length=n/\∀ x∈r,0<=x/\x<(p:Int)
 | 0,r,h=>by
  have:r=[]:=by simpa [msgs] using h
  subst this;exact⟨rfl,λx hx=>by cases hx⟩
 | n+1,r,h=>by
  unfold msgs mS at h;obtain⟨s,hs,h⟩:=FE.mp h;obtain⟨k,hk,rfl⟩:=DI.mp h;obtain⟨a,b⟩:=OO hs;have hk:=Eg.mp hk;refine⟨by rw[DT,a];rfl,λx hx=>?_⟩;rcases Ea.mp hx with hx|hx
  ·exact b x hx
  ·have:x=(k:Int):=by simpa using hx
   subst this;omega
theorem Pn {p:Nat}:∀ {n:Nat}{r:Ξ},r.length=n->(∀ x∈r,0<=x/\x<(p:Int))->r∈msgs p n
 | 0,r,h,_=>by have:r=[]:=Gm.mp h;subst this;exact E5.mpr rfl
 | n+1,r,h,b=>by
  have Qt:r≠[]:=λz=>by rw[z]at h;cases h
  have e:=List.dropLast_concat_getLast Qt;have bl:=b _<|List.getLast_mem Qt;unfold msgs mS;refine FE.mpr ⟨r.dropLast,Pn (by rw[List.length_dropLast,h];rfl) λx hx=>b x<|List.dropLast_subset r hx,DI.mpr ⟨(r.getLast Qt).toNat,Eg.mpr<|by omega,?_⟩⟩;rw[Int.toNat_of_nonneg bl.1,e]
theorem Pm (p:Nat):∀ n,(msgs p n).length=p ^ n
 | 0=>rfl
 | n+1=>by
  unfold msgs mS;rw[List.length_flatMap];have:(msgs p n).map (λr=>((List.range p).map λ(k:Nat)=>r++[(k:Int)]).length)=(msgs p n).map λ_=>p:=by refine E9 λr _=>?_;rw[DH,Er]
  rw[this,List.map_const',List.sum_replicate_nat,Pm p n,Nat.pow_succ]
end My
namespace K92
open PySem L2
open PyProof.Rows (boot_all boot_bool boot_dict boot_int boot_list boot_sorted boot_str boot_tuple)
noncomputable def kb (cs ds:Cs)(ks:Ξ):Bool:=ks.all λk=>decide (aA cs k=aA ds k)
inductive O5:Ä
 |mk {cs ds:Cs}{ks:Ξ}:ks.length<=1000->(∀ k∈ks,k∈cs.map (·.1)/\k∈ds.map (·.1))->O5 [Pa cs,Pa ds,rw ks] (.bl (kb cs ds ks))
noncomputable abbrev sP:Stmt:=top 97
theorem AM:ae é é (a8 sP):=IM
theorem Bp (F:Iy K "_law_like" "_law_like" sP f fd)(T:jB mg):HP P w K mg base Ik 1 f fd é (Pr O5):=by
 refine F.dv AM ?_ λHU A _ s H E hr=>(q1 (qR (dB ud (fX K rfl) rfl T.Oz boot_all (da (Od 0 rfl (cS 1 [0,1] ["_law_number","_law_one","_law_other"]) (ax<|Đ 2)
  (λ_ _ _ _ _=>pC 0)
  (λ_ _ _ _ _=>Lp)
  (λ_ _ _ _ _=>dM bf cF (dS (ao hr) (Đ 1)<|Đ 0)<|dS (ao hr) (Đ 2) (Đ 0))) HS))))
 rintro _ _ @⟨cs,ds,ks,hl,hk⟩;refine⟨rfl,.inl ⟨⟨⟨aR (h:=λk=>.bl<|decide (aA cs k=aA ds k)) ⟨rfl,.l .lst⟩ hl λk h=>⟨_,rfl,?_⟩,rfl⟩,?_⟩,rfl⟩⟩
 ·obtain⟨a,ha⟩:=fU (hk k h).1;obtain⟨b,hb⟩:=fU (hk k h).2;have r:=eq_int (ε:=[some _,some _,some _]) (ra:=rO Sub (rV 1)<|rV 0) (rb:=rO Sub (rV 2)<|rV 0) ⟨rfl,rfl,.k (sg ha) kI⟩ ⟨rfl,rfl,.k (sg hb) kI⟩;rw[ha,hb];rwa [FD.mpr ⟨congrArg _,Option.some.inj⟩]at r
 ·have:=Q6.mk (by rw[DL];rfl:ks.map (λk=>D.bl<|decide (aA cs k=aA ds k))=_);rwa [Hw]at this
inductive jG:Ä
 |mk {m p:Nat}:m<=100->p<=100->p ^ m<=1000->1<=p->jG [.int m,.int p] (tb (My.msgs p m))
noncomputable abbrev ic:Stmt:=top 96
theorem Mv:ae ["_law_many","_law_prime","_law_found","_law_k","_law_longer","_law_row","_law_number"] Č (a8 ic):=IM
theorem tS (F:Iy K "_law_messages" "_law_messages" ic f fd)(T:Dy mg):HP P w K mg base Ik 1 f fd Č (Pr jG):=by
 have ND:=Mv.nd;refine F.dv Mv ?_ λHU A outer s H E hr=>(qC (qS (pS 2 ND (d7<|da (d7 HS).p HS).p) λ_ _ _ h=>h)
 (qC (qL E1 rfl (QN rfl T.Ir<|da (Đ 0) HS) (pN 3 ND) (aN 3)
  (qC (qO (pS 4 ND<|d7 HS) λ_ _ _ h=>h)
 (qC (PR E1 rfl (ax<|Đ 2) (pN 5 ND) (aN 5)
  (q1 (qL E1 rfl (QN rfl T.Ir<|da (Đ 1) HS) (pN 6 ND) (aN 6)
  (q1<|qA (aE<|Pz K Ek Ep Eo aO (pv 4) (a9 (Qw (Đ 5) (d7<|da (Đ 6) HS).p) D')) (λ_ _ _ h=>h)))))
 (qZ 4<|q1 (qS (pS 2 ND<|Đ 4) λ_ _ _ h=>h)))))
 (q1<|qR (Đ 2))))
 rintro _ _ @⟨m,p,hm,hp,hz,h1⟩;refine⟨rfl,.inl (.nx ⟨⟨⟨⟨rfl,by simp,rfl⟩,rfl⟩,by simp,rfl⟩⟩ ?_)⟩;refine eZ (List.range m) (λi ε=>∃ o3 o4 o5 o6,ε=[.fz<|.int m,.fz<|.int p,.fz<|tb (My.msgs p i),o3,o4,o5,o6]) ⟨_,_,_,_,rfl⟩ ⟨m,by omega,⟨rfl,rfl⟩,(bt _).symm⟩ (λi x ε hx gR=>?_) λε gR=>?_
 ·obtain⟨o3,o4,o5,o6,he⟩:=gR;obtain⟨rfl,hi⟩:=jU hx;subst he;have zl:(My.msgs p<|i+1).length<=1000:=by rw[My.Pm];exact Ei (Nat.pow_le_pow_right h1<|by omega) hz
  have es:My.msgs p (i+1)=(My.msgs p i).flatMap λr=>(List.range p).map λ(k:Nat)=>r++[(k:Int)]:=rfl;have ml:=λr (h:r∈My.msgs p i)=>(My.OO h).1;rw[es]at zl ⊢;generalize My.msgs p i=L at zl ml ⊢;have pre:∀ j,((L.take j).flatMap λr=>(List.range p).map λ(k:Nat)=>r++[(k:Int)]).length<=(L.flatMap λr=>(List.range p).map λ(k:Nat)=>r++[(k:Int)]).length:=λj=>by
   conv=>rhs;rw[<- EF j L,EV,DT]
   omega
  refine⟨_,rfl,oW ⟨⟨rfl,by simp,rfl⟩⟩ ?_⟩;refine Ur L (λj ε=>∃ o5 o6,ε=[.fz<|.int m,.fz<|.int p,.fz<|tb L,.fz<|.int i,.ow<|tb ((L.take j).flatMap λr=>(List.range p).map λ(k:Nat)=>r++[(k:Int)]),o5,o6]) ⟨_,_,rfl⟩ ⟨rfl,.l .lst⟩ (λj r ε hr gR=>?_) λε gR=>?_
  ·obtain⟨o5,o6,he⟩:=gR;subst he;have pj:=pre<|j+1;rw[be hr,EV,List.flatMap_singleton,DT,DH,Er]at pj;rw[be hr,EV,List.flatMap_singleton];generalize (L.take j).flatMap (λr=>(List.range p).map λ(k:Nat)=>r++[(k:Int)])=A at pj ⊢;refine⟨_,rfl,W4 (List.range p) (λk ε=>∃ o6,ε=[.fz<|.int m,.fz<|.int p,.fz<|tb L,.fz<|.int i,.ow<|tb (A++((List.range p).take k).map λ(k:Nat)=>r++[(k:Int)]),.fz<|rw r,o6]) ⟨o6,by rw[Gj,Fu,El];rfl⟩ ⟨p,by omega,⟨rfl,rfl⟩,(bt _).symm⟩ (λk y ε hy gR=>?_) λε gR=>(by obtain⟨o6,he⟩:=gR;exact⟨_,_,by rw[Er,Ff<|by simp]at he;exact he⟩)⟩;obtain⟨o6,he⟩:=gR;subst he;obtain⟨rfl,hk⟩:=jU hy;have e:tb (A++((List.range p).take<|k+1).map λ(k:Nat)=>r++[(k:Int)])=.lst ((A++((List.range p).take k).map λ(k:Nat)=>r++[(k:Int)]).map rw++[rw (r++[(k:Int)])]):=by rw[be hy,DP,<- Ez];exact congrArg D.lst DP
   refine⟨_,rfl,_,⟨rfl,by simp;omega,.z ⟨rfl,⟨⟨rfl,rfl⟩,by simp,rfl⟩,.l ?_⟩⟩,.fz<|.int k,by rw[e,AQ];rfl⟩;rw[DH,ml r<|DO hr];simp;omega
  ·obtain⟨o5,o6,he⟩:=gR;rw[Et]at he;subst he;exact⟨_,⟨_,rfl,⟨rfl⟩⟩,_,_,_,_,rfl⟩
 ·obtain⟨_,_,_,_,he⟩:=gR;rw[he,Er];exact⟨rfl,rfl⟩
noncomputable abbrev bb (t:Int×Str×Str):D:=.tup [.int t.1,.str t.2.1,.str t.2.2]
abbrev _root_.Ï:=List (Int×Str×Str)
noncomputable def cY (ts:Ï)(m:Nat)(x:Str):Nat:=if x="h" then m else (ts.filter λr=>decide (r.2.2=x)).length
noncomputable def pV (g:Int->Int)(p:Int)(a:Nat)(n:Nat):Ξ:=(List.range n).map λ(k:Nat)=>g ((a:Int)+(k:Int)) % p
noncomputable def lO (g:Int->Int)(ts:Ï)(m:Nat)(p:Int)(b:List aU×Nat)(t:Int×Str×Str):List aU×Nat:=(b.1++[(t.1,pV g p b.2 (cY ts m t.2.1))],b.2+cY ts m t.2.1)
noncomputable def eL (g:Int->Int)(ts:Ï)(m:Nat)(p:Int)(us:Ï):List aU×Nat:=us.foldl (lO g ts m p) ([],0)
theorem xa:eL g ts m p (us++[t])=lO g ts m p (eL g ts m p us) t:=by unfold eL;rw[List.foldl_append];rfl
inductive se (g:Int->Int->Int):Ä
 |mk {x k:Int}:0<=k->k<1000->se g [.int x,.int k] (.int (g x k))
inductive y9 (g:Int->Int->Int):Ä
 |mk {ts:Ï}{m:Nat}{p s:Int}:m<=40->ts.length<=20->(ts.map (·.1)).Nodup->0<p->y9 g [.lst (ts.map bb),.int m,.int p,.int s] (bz (eL (g s) ts m p ts).1)
noncomputable abbrev sN:Stmt:=top 95
theorem Ph:ae ["_law_ties","_law_many","_law_prime","_law_second","_law_plan_here","_law_at","_law_number","_law_one","_law_other","_law_size"] ë (a8 sN):=IM
theorem Bn (F:Iy K "_law_plan" "_law_plan" sN f fd)(T:Txt K mg C)(JX:Df P w K mg base 1 "_law_mix" î (Pr (se g))):HP P w K mg base Ik 2 f fd ë (Pr (y9 g)):=by
 have ND:=Ph.nd;refine F.dv Ph ?_ λHU A outer s H E hr=>(qC (qO (pS 4 ND Z') λ_ _ _ h=>h)
 (qC (qS (pS 5 ND<|dC aa) λ_ _ _ h=>h)
 (qC (PR E1 rfl (ax<|Đ 0) (cr K rfl<|af (pN 6 ND) (af (pN 7 ND)<|af (pN 8 ND) aD)) (fY K [6,7,8])
  (qC (qS (pS 9 ND<|Đ 1) λ_ _ _ h=>h)
 (qC (qI (dT oh xt (Đ 7)<|dC bX)
  (q1 (qS (pS 9 ND (dB b5 aG rfl T.IH boot_len (da (Od 0 rfl (cS 1 [7] ["_law_row","_law_one"]) (ax<|Đ 0)
  (λ_ _ _ _ _=>pC 0)
  (λ_ _ _ _ _=>c6<|dT bf cF (dS (ao hr) (Đ 0)<|dC aa) (Đ 1))
  (λ_ _ _ _ _=>Đ 0)) HS))) λ_ _ _ h=>h))
  q0)
 (qC (qP (cA (ao hr) (pv 4) (Đ 6) (dL 0 rfl (cS 1 [2,3,5] ["_law_k","_law_prime","_law_second","_law_at"]) (QN rfl T.Ir<|da (Đ 9) HS)
  (λ_ _ _ _ _=>pC 0)
  (λ_ _ _ _ _=>Lp)
  (λ_ _ _ _ _=>dO bK NB (dF JX hr.m rfl<|da (Đ 2) (da (Qw (Đ 3)<|Đ 0) HS))<|Đ 1)) rfl) λ_ _ _ h=>h)
 (q1<|qS (pS 5 ND<|Qw (Đ 5) (Đ 9)) (λ_ _ _ h=>h))))))
 (q1<|qR (Đ 4)))))
 rintro _ _ @⟨ts,m,p,s,hm,hl,nd,hp⟩;have sz:∀ x,cY ts m x<=40:=λx=>by
  unfold cY;split
  ·exact hm
  ·exact Ei (Eh _ _) (by omega)
 refine⟨rfl,.inl<|.nx ⟨rfl⟩ (.nx ⟨rfl⟩ ?_)⟩;refine eZ ts (λi ε=>(eL (g s) ts m p<|ts.take i).1.map (·.1)=(ts.take i).map (·.1)/\(eL (g s) ts m p<|ts.take i).2<=i * 40/\∃ o6 o7 o8 o9,ε=[.fz<|.lst (ts.map bb),.fz<|.int m,.fz<|.int p,.fz<|.int s,.ow<|bz (eL (g s) ts m p<|ts.take i).1,.fz<|.int (eL (g s) ts m p<|ts.take i).2,o6,o7,o8,o9]) ⟨rfl,EE _,_,_,_,_,rfl⟩ ⟨rfl,.l .lst⟩ (λi t ε ht gR=>?_) λε gR=>?_
 ·obtain⟨hk,ha,o6,o7,o8,o9,he⟩:=gR;subst he;have lt:=(DJ.mp ht).1;have st:=sz t.2.1;rw[be ht,xa];generalize eL (g s) ts m p (ts.take i)=b at hk ha ⊢;have bl:b.1.length<=20:=by have:=congrArg List.length hk;simp at this;omega
  have nw:(.inl t.1:Key)∉(b.1.map λr=>((.inl r.1:Key),rw r.2)).map (·.1):=λz=>by rw[DL]at z;obtain⟨x,h1,h2⟩:=DI.mp z;have:=DI.mpr ⟨x,h1,Sum.inl.inj h2⟩;rw[hk]at this;have nd:=(EF i ts)▸nd;rw[DP,Ej]at nd;exact nd.2.2 _ this _ (DI.mpr ⟨t,DO (i:=0) (by rw[Gs];exact ht),rfl⟩) rfl
  have e:bz (b.1++[(t.1,pV (g s) p b.2<|cY ts m t.2.1)])=Jq (sW (b.1.map λr=>((.inl r.1:Key),rw r.2)) (.inl t.1)<|rw (pV (g s) p b.2<|cY ts m t.2.1)):=by rw[dY nw];exact congrArg Jq DP
  refine⟨_,⟨_,rfl,rfl,rfl⟩,oW ⟨rfl⟩ (oW (ε1:=[.fz<|.lst (ts.map bb),.fz<|.int m,.fz<|.int p,.fz<|.int s,.ow<|bz b.1,.fz<|.int b.2,.fz<|.int t.1,.fz<|.str t.2.1,.fz<|.str t.2.2,.fz<|.int (cY ts m t.2.1:Nat)]) ?_ ⟨_,.nx ⟨rfl,by rw[DH];omega,.z<|dj ⟨_,by omega,⟨rfl,rfl⟩,(bt _).symm⟩ (by simp;omega) (λk LZ=>⟨_,rfl,⟨⟨rfl,⟨rfl,rfl,.i⟩,rfl⟩,.mk (by omega) (by have:=Eg.mp LZ;omega)⟩,rfl,⟨hp⟩⟩) (Fl.rt.inj<|P9 _ _),rfl,kI⟩ ⟨rfl,rfl,.i⟩,?_,?_,.fz<|.int t.1,.fz<|.str t.2.1,.fz<|.str t.2.2,.fz<|.int (cY ts m t.2.1:Nat),?_⟩)⟩
  ·have r1:=ne_str (ε:=[some<|.lst (ts.map bb),some<|.int m,some<|.int p,some<|.int s,some<|bz b.1,some<|.int b.2,some<|.int t.1,some<|.str t.2.1,some<|.str t.2.2,some<|.int m]) (ra:=rV 7) (rb:=rC<|.str "h") rfl rfl;unfold cY;by_cases z:t.2.1="h"
   ·rw[DQ λy=>y z]at r1;rw[if_pos z];exact .f r1 rfl
   ·rw[DM z]at r1;rw[if_neg z];exact .t r1 ⟨⟨bh (λr=>decide (r.2.2=t.2.1)) ⟨rfl,.l .lst⟩ (by omega) λr _=>⟨_,rfl,eq_str ⟨rfl,rfl,.t rfl⟩ rfl,λ_=>rfl⟩,rfl⟩,M0.m⟩
  ·unfold lO;rw[DP,hk,DP];rfl
  ·unfold lO;show b.2+_<=_;omega
  ·unfold lO;dsimp only;rw[e];rfl
 ·obtain⟨_,_,_,_,_,_,he⟩:=gR;rw[Et]at he;rw[he];exact⟨rfl,rfl⟩
theorem dFd (Dd:Sz X.prog X.w X.K X.mg X.base k x ps dvs (Pr R)/\∀ F,Ij F dl dvs)(hr:IA k X.A)(hg:Gl X x)(ha:PA X (e::es) (KU rs))(Mb:autoParam (Ė x) ĩ)(he:autoParam (Ĕ X e es) ŕ)(L':autoParam (Ē X pos es) ŕ):
  PE X (.Call (.Name x p) (e::es) [] pos) (tP (rF (λl=>R (l++dl)) rs)):=(Bc Dd.1 hr hg ha Mb he L').imp λσ H Q h=>KU.call Dd.2 h
theorem a1j (h:PF X.QH body r):QS X (.Try body (h₀::hs) [] [] pos) r:=λF0 H0=>CO (h F0 H0)
inductive fNl:D->D->D->Prop
 |mk {as bs:Ξ}:fNl (rw as) (rw bs) (.bl (!decide (as=bs)))
theorem tY:∀ {as:Ξ}{vs:π}{H:Hp},Ij F (as.map .int) vs->Paired (ZR H) vs as
 | [],_,_,h=>by cases h;exact .nil
 | _::as,_,_,⟨_,_,e,h1,h2⟩=>by subst e;exact .cons h1 (tY h2)
theorem XI:P1 fNl (λx y H Q=>∃ as bs,Dg K ZR H x as/\Dg K ZR H y bs/\Q (.bl (!decide (as=bs))) H):=λF H x y u v d Q s z hu hv q=>by obtain @⟨as,bs⟩:=z;obtain⟨a,vs,rfl,p1,p2⟩:=hu;obtain⟨b,us,rfl,p3,p4⟩:=hv;exact⟨as,bs,⟨a,vs,rfl,Il.of<|s _ _ p1,tY p2⟩,⟨b,us,rfl,Il.of<|s _ _ p3,tY p4⟩,tP.at s q rfl⟩
inductive pL (Rp Rj:Ä):Ä
 |mk {n:D}{m p:Int}{pl:ι}{gs:η}{J:Str->D}:Rp [n,.int m,.int p,.int 0] (Jq pl)->Rj [n,Jq pl,.int m,.int p,.non] (Jq (gs.map λg=>(.inr g,J g)))->gs.length<=1000->(∀ g∈gs,∃ d,J g=.tup [.str "reads",d])->pL Rp Rj [n,.int m,.int p] (.bl true)
noncomputable abbrev sM:Stmt:=top 99
theorem Pg:ae ["_law_net_here","_law_many","_law_prime","_law_plan_here"] í (a8 sM):=IM
theorem Bm (F:Iy K "_law_wide" "_law_wide" sM f fd)(T:jB mg)(Lw:Sz P w K mg base 7 "plan_for" ï [.int 0] (Pr Rp)/\∀ F,Ij F [.int 0] [.int 0])(Nc:Sz P w K mg base 8 "judged" Ý [.non] (Pr Rj)/\∀ F,Ij F [.non] [.non]):HP P w K mg base Ik 9 f fd í (Pr (pL Rp Rj)):=by
 have ND:=Pg.nd;refine F.dv Pg ?_ λHU A outer s H E hr=>(qC (qS (pS 3 ND<|dC b6) λ_ _ _ h=>h)
 (qC (a1j<|q1 (qS (pS 3 ND<|dFd Lw hr.m rfl (da (Đ 0)<|da (Đ 1) (da (Đ 2) HS))) λ_ _ _ h=>h))
 (qC (qI (dT l9 qK (Đ 3)<|dC b6)
  (q1<|qR (dC cG))
  q0)
 (q1 (qR (dB ud (fX K rfl) rfl T.Oz boot_all (da (dLv 0 rfl (cS 1 [] ["_law_told"]) (jV<|dFd Nc hr.m rfl (da (Đ 0)<|da (Đ 3) (da (Đ 1)<|da (Đ 2) HS)))
  (λ_ _ _ _ _=>pC 0)
  (λ_ _ _ _ _=>Lp)
  (λ_ _ _ _ _=>dM bf cF (dS (ao hr) (Đ 0)<|dC aa)<|dC bX)) HS)))))))
 rintro _ _ @⟨n,m,p,pl,gs,J,h1,h2,hl,hj⟩;refine⟨rfl,.inl<|.nx ⟨rfl⟩ (.nx ⟨⟨rfl,rfl,rfl,rfl⟩,h1⟩<|.nx (.f ⟨rfl,rfl,by exact⟨⟩⟩ rfl) ⟨⟨⟨aR (h:=λ_=>.bl true) ⟨⟨⟨rfl,rfl,rfl,rfl,rfl⟩,h2⟩,jJ _ _ _⟩ hl λg hg=>⟨_,rfl,?_⟩,rfl⟩,Q6.mk (by rw[DL];rfl)⟩,by simp⟩)⟩;obtain⟨d,hd⟩:=hj g hg;have r:=eq_str (ε:=[some<|J g]) (ra:=rO Sub (rV 0)<|rC (.int 0)) (rb:=rC<|.str "reads") ⟨rfl,rfl,by rw[hd];exact .t rfl⟩ rfl;rwa [DM rfl]at r
inductive CG (ra rb:Rx) (ε:En):D->Prop
 |t:ra ε (.bl true)->CG ra rb ε (.bl true)
 |f {d:D}:ra ε (.bl false)->rb ε d->CG ra rb ε d
theorem Z9 (ha:PE X a (tP ra))(hb:PE X (.BoolOp .Or (b::rest) pos) (tP rb)):PE X (.BoolOp .Or (a::b::rest) pos) (tP (CG ra rb)):=(XB ha hb).imp λσ H Q gR=>by
 obtain⟨F,ε,d,S,h,q⟩:=gR
 cases h with
 | t h1=>exact tP.go S h1 λx H1 e1 S1 q1=>⟨true,q1,q _ H1 e1 rfl⟩
 | f h1 h2=>exact tP.go S h1 λx H1 e1 S1 q1=>⟨false,q1,tP.go S1 h2 λx H2 e2 _ q2=>q x H2 (e1.trans e2)<|by rwa [au e1 e2]at q2⟩
noncomputable abbrev Da {α:Type}(pq qq:α->Bool)(b:Bool)(r:α):Bool:=if pq r=true then b || qq r else b
theorem vE (pq:α->Bool)(qq:α->Bool):∀ (l:List α)(b:Bool),(b=true\/∃ r∈l,pq r=true/\qq r=true)->l.foldl (Da pq qq) b=true
 | [],_,h=>h.elim id λgR=>by obtain⟨_,h,_⟩:=gR;exact nomatch h
 | r::l,b,h=>vE pq qq l _ (by
  unfold Da;rcases h with h|⟨s,h1,h2,h3⟩
  ·rw[h];exact .inl (by split <;> rfl)
  ·rcases E3.mp h1 with rfl|h1
   ·rw[if_pos h2,h3];exact .inl (Bool.or_true _)
   ·exact .inr ⟨s,h1,h2,h3⟩)
section
variable {c:Cl}
inductive kJ (c:Cl) (Rj Rs:Ä):Ä
 |mk {S:NS}{pl:D}{m p:Nat}{fs cut:Ξ}{g:Str}{J:ι}{d1 d2:D}{cs:List Int->Cs}:g∈S.names->S.HM.length<=1000->m<=100->p<=100->p ^ m<=1000->1<=p->cut.length<=1000->(S.into g).length<=1000->Rj [aI c S,pl,.int m,.int p,rw fs] (Jq J)->cI J (.inr g)=some (.tup [.str "alike",d1,d2]) ->
   Rs [aI c S,pl,rw (List.replicate m 0),.int p,rw fs] (Pa (cs (List.replicate m 0)))->(∀ r∈My.msgs p m,Rs [aI c S,pl,rw r,.int p,rw fs] (Pa (cs r)))->(∀ r,∀ k,k∈cut \/ k∈S.into g->k∈(cs r).map (·.1))->(∀ r∈My.msgs p m,kb (cs r) (cs (List.replicate m 0)) cut=true->kb (cs r) (cs (List.replicate m 0)) (S.into g)=true) ->
   (∃ r∈My.msgs p m,kb (cs r) (cs (List.replicate m 0)) cut=true/\(!decide (r=List.replicate m 0))=true)->kJ c Rj Rs [aI c S,pl,.int m,.int p,rw fs,.tup [.str g,rw cut]] (.bl true)
noncomputable abbrev l5:Stmt:=top 98
theorem NY:ae ["_law_net_here","_law_plan_here","_law_many","_law_prime","_law_fallen","_law_told","_law_name","_law_cut","_law_nothing","_law_met","_law_message","_law_carries"] â (a8 l5):=IM
theorem xr {Rs:Ä}(F:Iy K "_law_narrow" "_law_narrow" l5 f fd)(T:jB mg)(Ob:Df P w K mg base 8 "judged" Ý (Pr Rj))(P5:Df P w K mg base 5 "sent" æ (Pr Rs))(LD:Df P w K mg base 1 "_law_messages" Č (Pr jG))(NJ:Df P w K mg base 1 "_law_like" é (Pr O5))(IS:Dm P w K mg base 2 c.IU "into" Ü (Pr (pF c NS.into))):HP P w K mg base Ik 9 f fd â (Pr (kJ c Rj Rs)):=by
 have ND:=NY.nd;refine F.dv NY ?_ λHU A outer s H E hr=>(qC (qT (sY (Đ 5)<|cr K rfl (af (pN 6 ND)<|af (pN 7 ND) aD))<|fY K [6,7])
 (qC (qI (dT oh xt (dS (ao hr) (dS (ao hr) (dF Ob hr.m rfl<|da (Đ 0) (da (Đ 1)<|da (Đ 2) (da (Đ 3)<|da (Sv fW (cU rfl) rfl T.Ll boot_list<|da (Đ 4) HS) HS)))<|Đ 6)<|dC aa)<|dC bX)
  (q1<|qR (dC cG))
  q0)
 (qC (qS (pS 8 ND<|dF P5 hr.m rfl (da (Đ 0)<|da (Đ 1) (da (dO l8 qH (d7<|da (dC aa) HS).p<|Đ 2)<|da (Đ 3) (da (Sv fW (cU rfl) rfl T.Ll boot_list<|da (Đ 4) HS) HS)))) λ_ _ _ h=>h)
 (qC (qS (pS 9 ND<|dC cG) λ_ _ _ h=>h)
 (qC (PR E1 rfl (ax<|dF LD hr.m rfl (da (Đ 2)<|da (Đ 3) HS)) (pN 10 ND) (aN 10)
  (qC (qS (pS 11 ND<|dF P5 hr.m rfl (da (Đ 0)<|da (Đ 1) (da (Đ 10)<|da (Đ 3) (da (Sv fW (cU rfl) rfl T.Ll boot_list<|da (Đ 4) HS) HS)))) λ_ _ _ h=>h)
 (q1 (qI (dV<|cf (dF NJ hr.m rfl<|da (Đ 11) (da (Đ 8)<|da (Đ 7) HS)))
  (qC (qI (Af<|dV (cf<|dF NJ hr.m rfl (da (Đ 11)<|da (Đ 8) (da (Nq (Đ 0) IS hr.m<|da (Đ 6) HS) HS))))
  (q1<|qR (dC cG))
  q0)
 (q1<|qS (pS 9 ND<|Z9 (Đ 9) (jk<|dM (V' Dn<|ao hr) XI (Đ 10) (dO l8 qH (d7<|da (dC aa) HS).p<|Đ 2))) (λ_ _ _ h=>h)))
  q0))))
 (q1<|qR (Đ 9)))))))
 rintro _ _ @⟨S,pl,m,p,fs,cut,g,J,d1,d2,cs,hg,hl,hm,hp,hz,h1,cl,il,hJ,hv,hs0,hs,hk,hL,hE⟩;have ru:=ne_str (ε:=[some<|aI c S,some pl,some<|.int m,some<|.int p,some<|rw fs,some<|.tup [.str g,rw cut],some<|.str g,some<|rw cut,none,none,none,none]) (ra:=rO Sub (rO Sub (rF Rj<|rA (rV 0) (rA (rV 1)<|rA (rV 2) (rA (rV 3)<|rA (rF cLi<|rA (rV 4) Of) Of)))<|rV 6)<|rC (.int 0)) (rb:=rC<|.str "alike") ⟨⟨⟨⟨rfl,rfl,rfl,rfl,⟨⟨rfl,rfl⟩,.s<|.sq .lst⟩,rfl⟩,hJ⟩,rfl,.k hv kS⟩,rfl,.t rfl⟩ rfl;rw[DQ λz=>z rfl]at ru;refine⟨rfl,.inl<|.nx ⟨rfl,_,rfl,rfl,rfl⟩ (.nx (.f ru rfl)<|.nx ⟨⟨rfl,rfl,⟨⟨⟨rfl,rfl⟩,by simp,rfl⟩,rfl,⟨by omega⟩⟩,rfl,⟨⟨rfl,rfl⟩,.s<|.sq .lst⟩,rfl⟩,by rw[jT]at hs0;exact hs0⟩ (.nx ⟨rfl⟩ ?_))⟩;have hf:=vE (λr=>kb (cs r) (cs<|List.replicate m 0) cut) (λr=>!decide (r=List.replicate m 0)) (My.msgs p m) false<|.inr hE;refine yn (My.msgs p m) (λb ε=>∃ ME LI,ε=[.fz<|aI c S,.fz pl,.fz<|.int m,.fz<|.int p,.fz<|rw fs,.fz<|.tup [.str g,rw cut],.fz<|.str g,.fz<|rw cut,.fz<|Pa (cs<|List.replicate m 0),.fz<|.bl b,ME,LI]) (Da (λr=>kb (cs r) (cs<|List.replicate m 0) cut) λr=>!decide (r=List.replicate m 0)) (b:=false) ⟨_,_,rfl⟩ ⟨⟨⟨rfl,rfl,rfl⟩,⟨hm,hp,hz,h1⟩⟩,.l .lst⟩ (λb r ε hr gR=>?_) λε gR=>?_
 ·obtain⟨ME,LI,he⟩:=gR;subst he;have l1:=O5.mk (cs:=cs r) (ds:=cs<|List.replicate m 0) cl λk LZ=>⟨hk _ k<|.inl LZ,hk _ k<|.inl LZ⟩
  have l2:=O5.mk (cs:=cs r) (ds:=cs<|List.replicate m 0) il λk LZ=>⟨hk _ k<|.inr LZ,hk _ k<|.inr LZ⟩
  refine⟨_,rfl,oW ⟨⟨rfl,rfl,rfl,rfl,⟨⟨rfl,rfl⟩,.s<|.sq .lst⟩,rfl⟩,hs r hr⟩ ?_⟩;unfold Da;dsimp only;by_cases z:kb (cs r) (cs<|List.replicate m 0) cut=true
  rotate_left
  ·rw[if_neg z];rw[Bool.eq_false_iff.mpr z]at l1;exact⟨_,.f ⟨⟨rfl,rfl,rfl,rfl⟩,l1⟩ rfl,_,_,rfl⟩
  ·rw[z]at l1;rw[hL r hr z]at l2;rw[if_pos z];refine⟨_,.t ⟨⟨rfl,rfl,rfl,rfl⟩,l1⟩<|.nx (.f ⟨⟨rfl,rfl,⟨rfl,by decide,⟨rfl,rfl⟩,⟨hl,hg⟩⟩,rfl⟩,l2⟩ rfl) (.mk ?_),.fz<|rw r,.fz<|Pa (cs r),rfl⟩
   cases b with
   | true=>exact .t rfl
   | false=>
    have nl:=fNl.mk (as:=r) (bs:=List.replicate m 0);rw[jT]at nl;exact .f rfl ⟨rfl,⟨⟨⟨rfl,rfl⟩,by simp,rfl⟩,rfl,⟨by omega⟩⟩,nl⟩
 ·obtain⟨ME,LI,he⟩:=gR;subst he;rw[hf];exact⟨rfl,rfl⟩
end
open L2.Wy
noncomputable def bi {α:Type}(kf:α->Key)(nm:List α)(as:υ):ξ:=(nm.zip as).map λp=>(kf p.1,V.ref p.2)
theorem nM [DecidableEq α](kj:∀ a b,kf a=kf b->a=b):∀ (nm:List α)(as:υ),nm.Nodup->as.Nodup->nm.length=as.length->∃ LA:α->Addr,(∀ x∈nm,cu (bi kf nm as) (kf x)=some (.ref (LA x))/\LA x∈as)/\(∀ x∈nm,∀ y∈nm,LA x=LA y->x=y)/\as=nm.map LA
 | [],[],_,_,_=>⟨λ_=>0,(λx hx=>nomatch hx),(λx hx=>nomatch hx),rfl⟩
 | x::nm,a::as,h1,h2,hl=>by
  obtain⟨n1,n2⟩:=Ex.mp h1;obtain⟨a1,a2⟩:=Ex.mp h2;obtain⟨LA,l1,l2,l3⟩:=nM kj nm as n2 a2 (by simpa using hl);have ne:∀ y∈nm,y≠x:=λy hy e=>n1<|e▸hy;refine⟨λy=>if y=x then a else LA y,λy hy=>?_,λy hy z hz e=>?_,?_⟩
  ·rcases E3.mp hy with rfl|hy
   ·simp only[if_pos rfl];exact⟨jK rfl,E7 ..⟩
   ·simp only[if_neg<|ne y hy];refine⟨?_,E6 _ (l1 y hy).2⟩;rw[show bi kf (x::nm) (a::as)=(kf x,V.ref a)::bi kf nm as from rfl,jL λz=>ne y hy (kj _ _ z).symm];exact (l1 y hy).1
  ·rcases E3.mp hy with ey|hy
   ·rcases E3.mp hz with ez|hz
    ·rw[ey,ez]
    ·simp only[if_pos ey,if_neg<|ne z hz]at e;exact absurd (e▸(l1 z hz).2) a1
   ·rcases E3.mp hz with ez|hz
    ·simp only[if_pos ez,if_neg<|ne y hy]at e;exact absurd (e▸(l1 y hy).2) a1
    ·simp only[if_neg<|ne y hy,if_neg<|ne z hz]at e;exact l2 y hy z hz e
  ·rw[DX,if_pos rfl,l3];congr 1;exact E9 λy hy=>(if_neg<|ne y hy).symm
theorem lr:∀ (a b:ξ),((a++b).map (·.1)).Nodup->b8 a b=a++b
 | a,[],_=>by rw[El];rfl
 | a,k::b,h=>by
  have hk:cu a k.1=none:=by
   unfold cu;rw[EU.mpr λq hq z=>?_]
   ·rfl
   ·rw[DP]at h;exact (Ej.mp h).2.2 q.1 (DS hq) k.1 (DS<|E7 ..) (DZ z)
  show b8 (cO a k.1 k.2) b=_;rw[im _ hk,lr _ _<|by simpa using h];simp
theorem nN {kf:α->Key}(kj:∀ a b,kf a=kf b->a=b)(h:nm.Nodup)(hl:nm.length<=as.length):b8 [] (bi kf nm as)=bi kf nm as:=by
 rw[lr [] _ ?_]
 ·rfl
 ·rw[EW];unfold bi;rw[DL];have e:((λx:Key×V=>x.1) ∘ λp:α×Addr=>(kf p.1,V.ref p.2))=kf ∘ _:=rfl;rw[e,<- DL];have hs:((nm.zip as).map (·.1)).Nodup:=by rw[List.map_fst_zip hl];exact h
  exact List.Pairwise.map _ (λa b YG e=>YG<|kj _ _ e) hs
theorem wO (ts:List IJ)(t:IJ)(x:Str):gH (ts++[t]) x=gH ts x++(if t.2.1=x\/t.2.2.1=x then [t] else []):=by
 unfold gH;rw[FF];congr 1;by_cases h:t.2.1=x\/t.2.2.1=x
 ·rw[if_pos h,EZ,if_pos<|by simpa using h];rfl
 ·rw[if_neg h,EZ,if_neg<|by simpa using h];rfl
theorem nO:∀ nm:List α,bi kf nm (nm.map LA)=nm.map λx=>(kf x,V.ref (LA x))
 | []=>rfl
 | x::nm=>congrArg ((kf x,V.ref<|LA x)::·) (nO nm)
theorem sr:∀ {nm:η}{vs:π},Ij G (nm.map .str) vs->vs=nm.map V.str
 | [],_,h=>h
 | _::_,_,⟨_,_,e,h1,h2⟩=>by rw[e,sr h2,show _=V.str _ from h1];rfl
theorem sj:∀ {ts:List IJ}{vs:π},Ij G (ts.map bO) vs->Paired (KA G) vs ts
 | [],_,h=>by cases h;exact .nil
 | _::_,_,⟨_,_,e,h1,h2⟩=>by subst e;obtain⟨a,vs,rfl,h,_,_,rfl,rfl,_,_,rfl,rfl,_,_,rfl,rfl,_,_,rfl,rfl,rfl⟩:=h1;exact .cons ⟨a,rfl,h⟩ (sj h2)
theorem yg:∀ {ts:List IJ}{vs:π},Paired (KA G) vs ts->Ij G (ts.map bO) vs
 | _,_,.nil=>rfl
 | _,_,.cons a r=>⟨_,_,rfl,a.dr,yg r⟩
theorem kq:∀ {l:List α},(∀ x∈l,DR G (g x) (h x))->Ij G (l.map g) (l.map h)
 | [],_=>rfl
 | _::_,k=>⟨_,_,rfl,k _ E7,kq λx hx=>k x<|E6 _ hx⟩
noncomputable abbrev dG:Stmt:=top 72
theorem KW:ae ["names","ties","touching","tie"] ["names","ties"] (a8 dG):=IM
theorem mi (F:Iy K "ties_by_post" "ties_by_post" dG f fd)(T:Ch mg):HP P w K mg base Ik 1 f fd ["names","ties"] (Pr fJ):=by
 refine F.ok KW (λvs H Q E gR=>(by obtain⟨_,_,_,_,hl,hR,_⟩:=gR;cases hR;exact hl.length)) (λHU A outer s H vs Q E hr h=>?_)
 ·obtain⟨G,_,_,sF,hl,@⟨nm,ts,VL,hz,htz,hE,Qt⟩,q⟩:=h;obtain⟨_,_,rfl,⟨ln,vs1,rfl,a2f,Si⟩,_,_,rfl,⟨l,xs,rfl,hx0,RL⟩,rfl⟩:=hl;have WE:H ln=some (.lst<|nm.map V.str):=by rw[<- sr Si];exact sF _ _ a2f
  have hx:=sF _ _ hx0;have hp:=sj RL;have ND:=KW.nd;have Y9:=Paired.length hp;refine⟨_,(aj (pS 2 ND (fS (c8 rfl) rfl T.Ko boot_dict (a9 (eO rfl (cS 1 [] ["name"]) (t6 K<|pv 0)
  (λ_ _ _ _ _=>pC 0)
  (λ_ _ _ _ _=>LG)
  (λ_ _ _ _ _=>eM<|a9 (pv 0) (a9 (gj D') D'))) D')))
 (aj (bV E1 rfl (t6 K<|pv 1) (pN 3 ND)
  (aj (aE<|Pz K Ek Ep Eo aO (pD (ao hr) (pv 2)<|pI (VA K) (pv 3) aa) (a9 (pv 3) D'))
 (ar<|aE (Pz K Ek Ep Eo aO (pD (ao hr) (pv 2)<|pI (VA K) (pv 3) aa)<|a9 (pv 3) D'))))
 (ar<|bJ (pv 2)))),?_⟩
  refine⟨_,rfl,ln,rfl,⟨_,Il.of WE⟩,rT (λlc i H1=>H lc=none/\f' H H1/\∃ as,as.length=i/\as.Nodup/\(∀ a∈as,H1 a=some (.lst [])/\H a=none/\a≠lc)/\∃ vs,H1 lc=some (.lst vs)/\Paired (λv (kv:Key×V)=>∃ t,v=.ref t/\H1 t=some (.tup [kV kv.1,kv.2])) vs (bi (Sum.inr:Str->Key) (nm.take i) as))
   (λlc Q1=>⟨Q1,aV (f'.refl _) Q1,[],rfl,Ft,(λa ha=>nomatch ha),[],ag,.nil⟩) (λlc i H1 _ h=>Il.of<|h.2.1 _ _ WE) (λlc i v H1 ev h=>?_) (λlc H1 h=>?_)⟩
  ·obtain⟨Q1,e1,as,Rg,WQ,has,vs,NC,RK⟩:=h;obtain⟨x,ex,rfl⟩:∃ x,nm[i]?=some x/\v=.str x:=by
    rw[DN]at ev
    cases hm:nm[i]? with
    | none=>rw[hm]at ev;cases ev
    | some m=>rw[hm]at ev;exact⟨m,rfl,by simpa using ev.symm⟩
   have hi:=(DJ.mp ex).1;dsimp only[wP];rw[if_pos rfl];refine⟨_,rfl,(by show 0<=sizeLine;decide),λa H2 e2 h2 ha=>⟨(by show 2<=sizeLine;decide),λt H3 e3 h3 ht=>?_⟩⟩;have hvl:=Paired.length RK;have RI:(bi (Sum.inr:Str->Key) (nm.take i) as).length=i:=by unfold bi;rw[DH,Fd,E4,Rg];omega
   have Zj:a≠lc:=λz=>by rw[z,NC]at h2;cases h2
   have tlc:t≠lc:=λz=>by rw[z,e2 _ _ NC]at h3;cases h3
   refine⟨vs,e3 _ _<|e2 _ _ NC,by rw[hvl,RI];show i<2 ^ 24;omega,Q1,aW (e1.trans<|e2.trans e3) Q1,as++[a],by rw[DT,Rg];rfl,?_,λb hb=>?_,vs++[.ref t],ag,?_⟩
   ·refine Ej.mpr ⟨WQ,by simp,λb hb b' Oc e=>?_⟩;rw[E5.mp Oc]at e;rw[e]at hb;have:=(has a hb).1;rw[h2]at this
    cases this
   ·rcases Ea.mp hb with hb|hb
    ·obtain⟨b1,b2,b3⟩:=has b hb;exact⟨by rw[ab b3];exact e3 _ _<|e2 _ _ b1,b2,b3⟩
    ·rw[E5.mp hb];exact⟨by rw[ab Zj];exact e3 _ _ ha,e1.free h2,Zj⟩
   ·have tk:nm.take (i+1)=nm.take i++[x]:=by rw[F8,ex];rfl
    have er:bi (Sum.inr:Str->Key) (nm.take<|i+1) (as++[a])=bi (Sum.inr:Str->Key) (nm.take i) as++[(Sum.inr x,.ref a)]:=by unfold bi;rw[tk,List.zip_append (by rw[E4,Rg];omega),DP];rfl
    rw[er];refine Paired.Mq (Paired.imp' (λv kv ⟨t',e',OA⟩=>⟨t',e',?_⟩) RK) ⟨t,rfl,by rw[ab tlc];exact ht⟩;have:=e3 _ _<|e2 _ _ OA;rw[ab (λz=>by rw[z,e3 _ _<|e2 _ _ NC]at this;cases this)];exact this
  ·obtain⟨Q1,e1,as,Rg,WQ,has,vs,NC,RK⟩:=h;rw[DH]at Rg RK;rw[Et]at RK;have RI:(bi (Sum.inr:Str->Key) nm as).length<=1000:=by unfold bi;rw[DH,Fd,Rg];omega
   refine⟨lc,_,rfl,⟨vs,NC,RK⟩,RI,λd H2 e2 h2 hd=>?_⟩;rw[nN (λ_ _=>Sum.inr.inj) VL<|by omega]at hd;obtain⟨LA,SU,XY,la3⟩:=nM (λ_ _=>Sum.inr.inj) nm as VL WQ Rg.symm;have ek:bi (Sum.inr:Str->Key) nm as=nm.map λx=>(.inr x,V.ref<|LA x):=la3▸nO nm;generalize bi (Sum.inr:Str->Key) nm as=ķ at SU hd ek;have Oj:=e1.trans e2;have dN:∀ x∈nm,LA x≠d:=λx hx z=>by
    have:=(has _ (SU x hx).2).1;rw[z,h2]at this
    cases this
   have lN:=λx hx=>(has _ (SU x hx).2).2.1;refine⟨_,rfl,l,rfl,⟨_,Il.of<|Oj _ _ hx⟩,?_⟩;refine fV (λj σ H3=>(∃ o,σ=[some<|.ref ln,some<|.ref l,some<|.ref d,o])/\f' H H3/\H3 d=some (.dK ķ)/\∀ x∈nm,∃ us,H3 (LA x)=some (.lst us)/\Paired (KA G) us (gH (ts.take j) x))
    ⟨⟨_,rfl⟩,Oj,hd,λx hx=>⟨[],e2 _ _ (has _ (SU x hx).2).1,.nil⟩⟩ (λj σ H3 _ h=>Il.of<|h.2.1 _ _ hx) ?_ ?_
   ·rintro j v σ H3 ev ⟨⟨o,rfl⟩,e3,WO,hT⟩;obtain⟨t,et,p,rfl,ZZ⟩:=Paired.at hp ev;have htm:=DO et;obtain⟨m1,m2⟩:=hE t htm;have tk:ts.take (j+1)=ts.take j++[t]:=by rw[F8,et];rfl
    have n12:LA t.2.1≠LA t.2.2.1:=λz=>Qt t htm<|XY _ m1 _ m2 z;have hp3:=e3 _ _<|sF _ _ ZZ;obtain⟨ys,hy,Uh⟩:=hT _ m1;obtain⟨zs,hz3,VG⟩:=hT _ m2;have hyl:ys.length<=1000:=by rw[Paired.length Uh];exact Ei (Eh _ _) (Ei (by rw[E4];omega) htz)
    have hzl:zs.length<=1000:=by rw[Paired.length VG];exact Ei (Eh _ _) (Ei (by rw[E4];omega) htz)
    refine⟨_,rfl,_,rfl,p,_,1,_,rfl,rfl,Kc.of hp3,rfl,d,.ref<|LA t.2.1,rfl,(by rw[<- (SU _ m1).1];exact LV.k (k:=Sum.inr t.2.1) WO),.inl ⟨rfl,_,Il.of hy⟩,_,rfl,LA t.2.1,_,_,rfl,rfl,hy,by show ys.length<2 ^ 24;omega,?_⟩;have e4:f' H (upd H3 (LA t.2.1)<|.lst (ys++[.ref p])):=aW e3<|lN _ m1;have hd4:upd H3 (LA t.2.1) (.lst<|ys++[.ref p]) d=some (.dK ķ):=by rw[ab (dN _ m1).symm];exact WO
    have ZU:upd H3 (LA t.2.1) (.lst<|ys++[.ref p]) (LA t.2.2.1)=some (.lst zs):=by rw[ab n12.symm];exact hz3
    have hp4:=e4 _ _<|sF _ _ ZZ;refine⟨_,rfl,_,rfl,p,_,2,_,rfl,rfl,Kc.of hp4,rfl,d,.ref<|LA t.2.2.1,rfl,(by rw[<- (SU _ m2).1];exact LV.k (k:=Sum.inr t.2.2.1) hd4),.inl ⟨rfl,_,Il.of ZU⟩,_,rfl,LA t.2.2.1,_,_,rfl,rfl,ZU,by show zs.length<2 ^ 24;omega,?_⟩;refine⟨⟨_,rfl⟩,aW e4<|lN _ m2,by rw[ab (dN _ m2).symm];exact hd4,λx hx=>?_⟩;rw[tk,wO];by_cases h1:t.2.1=x
    ·rw[if_pos<|.inl h1];subst h1;refine⟨ys++[.ref p],by rw[ab n12,ag],?_⟩;exact Paired.Mq Uh ⟨p,rfl,ZZ⟩
    ·by_cases h2:t.2.2.1=x
     ·rw[if_pos<|.inr h2];subst h2;refine⟨zs++[.ref p],ag,?_⟩;exact Paired.Mq VG ⟨p,rfl,ZZ⟩
     ·rw[if_neg (by rintro (z|z);exact h1 z;exact h2 z),El];obtain⟨us,hu,hpu⟩:=hT x hx;refine⟨us,?_,hpu⟩;rw[ab λz=>h2 (XY _ hx _ m2 z).symm,ab λz=>h1 (XY _ hx _ m1 z).symm];exact hu
   ·rintro σ H3 ⟨⟨o,rfl⟩,e3,WO,hT⟩;rw[Y9,Et]at hT;refine⟨_,rfl,q _ H3 e3 ⟨d,ķ,rfl,.inl (by rw[aw<|e1.free h2];exact WO),by rw[ek,DL,DL];rfl,?_⟩⟩;rw[ek,DL,DL];refine kq λx hx=>?_;obtain⟨us,hu,hpu⟩:=hT x hx;exact⟨LA x,us,rfl,by rw[aw<|lN x hx];exact hu,Ij.mono (ak sF) _ _<|yg hpu⟩
theorem Wg (h0:0<=i)(h:i<xs.length):∃ v,xs[i.toNat]?=some v/\O3 xs i=some v:=by
 have hj:i.toNat<xs.length:=by omega
 refine⟨xs[i.toNat],DF hj,?_⟩;have:=kz<|DF hj;rwa [Int.toNat_of_nonneg h0]at this
structure Ar (mg:Ω):Prop where
 IH:mg "len"=none
 Ir:mg "range"=none
 Ll:mg "list"=none
 Pl:mg "sorted"=none
 Kg:mg "enumerate"=none
 Jj:mg "isinstance"=none
 U8:mg "int"=none
 RB:mg "bool"=none
 ZP:mg "tuple"=none
 Oz:mg "all"=none
 U9:mg "any"=none
 a31:mg "set"=none
 XW:mg "min"=none
 a32:mg "max"=none
theorem BT (c b:Int)(hb:0<b)(i:Nat):c / b ^ i / b=c / b ^ (i+1):=by
 have hp:0<b ^ i:=Int.pow_pos hb;rw[Int.pow_succ,Int.ediv_ediv];have:¬ (b ^ i<0/\¬ b ∣ c / b ^ i):=λz=>by omega
 simp only[this,GR,Int.sub_zero]
noncomputable def lm (c:Int):Int:=if c / 2 % 2=0 then 1000 else 1000000000
theorem Bv (c:Int):0<lm c/\lm c<1073741824:=by unfold lm;split <;> decide
noncomputable def a1B (c k:Int):Int:=(c+7919 * k+1) % 2147483647 * 48271 % 2147483647
noncomputable def a1A (x:Int):Int:=x * (x / 1009+69621) % 2147483647
noncomputable def a1z (x:Int):Int:=x * (x / 127+30011) % 2147483647
theorem yD (x:Int):-(2 ^ 64)<x % 2147483647/\x % 2147483647<2 ^ 64:=by omega
noncomputable def gN (c k:Int):Int:=if c % 2=0/\0<c / 4 / lm c ^ k.toNat then c / 4 / lm c ^ k.toNat % lm c else a1z (a1A (a1B c k))
section
variable {K:Ψ}
noncomputable abbrev jj:Stmt:=top 92
theorem uQ:ae Ā Ā (a8 jj):=IM
inductive gZ (K:Ψ) (vs:π) (H:Hp) (Q:VK) (E:XK):Prop
 |mk (a:Addr) (k:Int) (ns:Ξ):vs=[.ref a,.int k]->0<=k->Il K H a (ns.map V.int)->(∀ c:Int,Q (.int c) H)->gZ K vs H Q E
theorem vj (F:Iy K "_law_cell_at" "_law_cell_at" jj f fd)(T:Ar mg):HP P w K mg base Ik 1 f fd Ā (gZ K):=by
 refine F.k uQ λHU A _ s H vs Q E hr h=>?_
 ·obtain⟨a,k,ns,rfl,hk,hS,q⟩:=h;refine⟨_,(aj (io (pT lQ (pv 1)<|bQ (Vs K) rfl T.IH boot_len (a9 (pv 0) D'))
  (ar<|bJ (pI (oP K) (pv 0)<|pv 1))
  Jb)
 (ar<|bJ aa)),?_⟩
  refine⟨_,rfl,_,rfl,a,_,rfl,.inl hS,_,_,rfl,rfl,_,rfl,?_⟩;refine mH (λhc=>?_) (λhc=>?_)
  ·have hc:=DZ hc;obtain⟨v,ev,e⟩:=Wg hk hc;rw[DN]at ev
   cases hn:ns[k.toNat]? with
   | none=>rw[hn]at ev;cases ev
   | some z=>
    rw[hn]at ev;have:v=.int z:=by simpa using ev.symm
    subst this;exact⟨_,rfl,_,rfl,a,_,k,_,rfl,rfl,hS,e,q z⟩
  ·exact q 0
noncomputable abbrev sO:Stmt:=top 93
theorem Qk:ae ["_law_cell","_law_k","_law_base","_law_left","_law_step","_law_number"] î (a8 sO):=IM
inductive ym (vs:π) (H:Hp) (Q:VK) (E:XK):Prop
 |mk (c k:Int):vs=[.int c,.int k]->0<=k->k<1000->(∀ H',f' H H'->Q (.int (gN c k)) H')->ym vs H Q E
theorem Bo (F:Iy K "_law_mix" "_law_mix" sO f fd)(T:Ar mg):HP P w K mg base Ik 1 f fd î ym:=by
 refine F.k Qk λHU A outer s H vs Q E hr h=>?_
 ·obtain⟨c,k,rfl,hk,hk2,q⟩:=h;have ND:=Qk.nd;refine⟨_,(aj (nV (pT bf (bM bK (pv 0) aa) aa)
  (aj (pS 2 ND<|pI (oP K) (V7<|a9 aa (a9 (bM V9 aa aa) D')) (bM bK (bM eQ (pv 0) aa) aa))
 (aj (pS 3 ND<|bM eQ (pv 0) aa)
 (aj (bV E1 rfl (qx rfl T.Ir<|a9 (pv 1) D') (pN 4 ND)
  (ar<|pS 3 ND (bM eQ (pv 3)<|pv 2)))
 (ar (io (pT qF (pv 3) aa)
  (ar<|bJ (bM bK (pv 3)<|pv 2))
  Jb)))))
  Jb)
 (aj (pS 5 ND<|bM bK (bM cC (bM bK (bM lf (bM lf (pv 0)<|bM cC aa (pv 1)) aa) aa) aa) aa)
 (aj (pS 5 ND<|bM bK (bM cC (pv 5)<|bM lf (bM eQ (pv 5) aa) aa) aa)
 (ar<|bJ (bM bK (bM cC (pv 5)<|bM lf (bM eQ (pv 5) aa) aa) aa))))),?_⟩
  obtain⟨bp,bq⟩:=Bv c;refine⟨λσ' H'=>(∃ o2 o3 o4,σ'=[some<|.int c,some<|.int k,o2,o3,o4,none])/\f' H H'/\¬ (c % 2=0/\0<c / 4 / lm c ^ k.toNat),?_,?_⟩
  ·rintro σ' H' ⟨⟨o2,o3,o4,rfl⟩,e',hn⟩;refine⟨_,rfl,_,rfl,_,_,rfl,rfl,.inl ⟨by decide,by decide⟩,_,_,rfl,rfl,_,_,rfl,rfl,_,_,rfl,rfl,(by show (0:Int)<2147483647;decide),_,_,rfl,rfl,.inr ⟨by decide,by decide⟩,_,_,rfl,rfl,(by show (0:Int)<2147483647;decide),?_⟩;refine⟨_,rfl,_,rfl,_,_,rfl,rfl,⟨by decide,by decide⟩,_,_,rfl,rfl,_,_,rfl,rfl,.inl<|yD _,_,_,rfl,rfl,(by show (0:Int)<2147483647;decide),?_⟩;refine⟨_,rfl,_,rfl,_,_,rfl,rfl,⟨by decide,by decide⟩,_,_,rfl,rfl,_,_,rfl,rfl,.inl<|yD _,_,_,rfl,rfl,(by show (0:Int)<2147483647;decide),?_⟩;have:=q H' e';unfold gN at this;rw[if_neg hn]at this;exact this
  ·refine⟨_,rfl,_,_,rfl,rfl,(by show (0:Int)<2;decide),rfl,_,rfl,mH (λg=>?_) (λg=>?_)⟩
   ·have g:c % 2=0:=by have:=DZ g;injection this
    refine⟨_,_,rfl,rfl,⟨by decide,by decide⟩,(by show 2<=sizeLine;decide),λl nl=>?_⟩;have e1:=aW (o:=.lst [V.int 1000,V.int<|(10:Int) ^ (9:Int).toNat]) (f'.refl H) nl;have hl:=ag (H:=H) (a:=l) (o:=.lst [V.int 1000,V.int<|(10:Int) ^ (9:Int).toNat]);obtain⟨H1,eH⟩:∃ H1,H1=upd H l (.lst [V.int 1000,V.int<|(10:Int) ^ (9:Int).toNat]):=⟨_,rfl⟩
    rw[<- eH]at e1 hl;have hb:O3 [V.int 1000,V.int<|(10:Int) ^ (9:Int).toNat] (c / 2 % 2)=some (.int<|lm c):=by
     by_cases h:c / 2 % 2=0
     ·rw[h];unfold lm;rw[if_pos h];rfl
     ·have h1:c / 2 % 2=1:=by omega
      rw[h1];unfold lm;rw[if_neg h];rfl
    refine⟨_,rfl,_,_,rfl,rfl,⟨by decide,by decide⟩,_,_,rfl,rfl,(by show (0:Int)<2;decide),l,_,_,_,rfl,rfl,Il.of ag,hb,?_⟩;refine⟨_,rfl,_,_,rfl,rfl,⟨by decide,by decide⟩,?_⟩;refine⟨_,rfl,_,rfl,by omega,by omega,rq (lo:=0) (n:=k.toNat) (λi σ H'=>(∃ o4,σ=[some<|.int c,some<|.int k,some<|.int (lm c),some<|.int (c / 4 / lm c ^ i),o4,none])/\H'=H1) ⟨⟨none,by rw[Int.pow_zero,Int.ediv_one];rfl⟩,eH.symm⟩ ?_ ?_⟩
    ·rintro i σ H' hi ⟨⟨o4,rfl⟩,rfl⟩;refine⟨_,rfl,_,rfl,_,_,rfl,rfl,⟨bp,bq⟩,⟨some<|.int (0+(i:Int)),?_⟩,rfl⟩;rw[<- BT (c / 4) (lm c) bp i];rfl
    ·rintro σ H' ⟨⟨o4,rfl⟩,rfl⟩;refine⟨_,rfl,_,_,rfl,rfl,_,rfl,mH (λg2=>?_) (λg2=>?_)⟩
     ·have g2:=DZ g2;refine⟨_,rfl,_,rfl,_,_,rfl,rfl,bp,?_⟩;have:=q H' e1;unfold gN at this;rw[if_pos ⟨g,g2⟩]at this;exact this
     ·exact⟨⟨_,_,_,rfl⟩,e1,λz=>g2<|DM z.2⟩
   ·exact⟨⟨_,_,_,rfl⟩,f'.refl _,λz=>g<|DM (show V.int (c % 2)=V.int 0 by rw[z.1])⟩
theorem D6 (F:Iy K "_law_mix" "_law_mix" sO f fd)(T:Ar mg):HP P w K mg base Ik 1 f fd î (Pr (se gN)):=(Bo F T).imp λvs H Q E gR=>by obtain⟨F,_,_,s,h,r,q⟩:=gR;obtain⟨h0,h1⟩:=r;obtain⟨_,_,rfl,rfl,_,_,rfl,rfl,rfl⟩:=h;exact⟨_,_,rfl,h0,h1,λH' e=>q _ H' e rfl⟩
end
theorem vv:∀ {xs ys:η},xs.Nodup->(∀ x∈xs,x∈ys)->xs.length<=ys.length
 | [],ys,_,_=>EE _
 | x::xs,ys,nd,h=>by have nd:=Ex.mp nd;have hx:=h x (by simp);have:=vv (ys:=ys.erase x) nd.2 λy hy=>(Gd (λz:y=x=>nd.1 (by rw[<- z];exact hy))).mpr<|h y (by simp[hy]);rw[Gg hx]at this;have h1:0<ys.length:=GV hx;rw[Eu];omega
noncomputable def bF (bs:List (Str×η)):Nat->η
 | 0=>[]
 | k+1=>bF bs k++[(bA bs (bF bs k)).getD ""]
structure At (bs:List (Str×η)):Prop where
 nd:(bs.map (·.1)).Nodup
 ends:∀ b∈bs,∀ y∈b.2,y∈bs.map (·.1)
 rk:∃ rank:Str->Nat,∀ b∈bs,∀ y∈b.2,rank y<rank b.1
theorem gc (A:At bs)(Kb:ts.length<bs.length):∃ x,bA bs ts=some x/\x∈bs.map (·.1)/\x∉ts:=by
 obtain⟨rank,hrk⟩:=A.rk;have one:∃ b∈bs,b.1∉ts:=by
  by_cases h:∃ b∈bs,b.1∉ts
  ·exact h
  ·have hs:∀ x∈bs.map (·.1),x∈ts:=λx hx=>by
    obtain⟨b,hb,rfl⟩:=DI.mp hx;by_cases hh:b.1∈ts
    ·exact hh
    ·exact absurd ⟨b,hb,hh⟩ h
   have:=vv A.nd hs;rw[DH]at this;omega
 have key:∀ n,∀ b∈bs,b.1∉ts->rank b.1=n->∃ b'∈bs,ig ts b'=true:=by
  intro n
  induction n using Nat.strongRecOn with
  | ind n ih=>
   intro b hb hbt hn;by_cases QV:∀ y∈b.2,y∈ts
   ·refine⟨b,hb,?_⟩;unfold ig;rw[DQ hbt];simpa using QV
   ·obtain⟨y,hy⟩:=Classical.not_forall.mp QV;obtain⟨ZV,hy2⟩:=Classical.not_imp.mp hy;obtain⟨b',Oc,e'⟩:=DI.mp<|A.ends b hb y ZV;exact ih _ (by rw[<- hn];exact hrk b hb y ZV) b' Oc (by rw[e'];exact hy2) (by rw[e'])
 obtain⟨b,hb,hbt⟩:=one;obtain⟨b',Oc,RJ⟩:=key _ b hb hbt rfl
 cases hf:bs.find? _ with
 | none=>exact absurd RJ (by have:=EU.mp hf b' Oc;simpa using this)
 | some c=>
  have hc:=Fy hf;refine⟨c.1,by unfold bA;rw[hf];rfl,DS<|ED hf,λz=>?_⟩;unfold ig at hc;rw[DM z]at hc
  cases hc
theorem nZ (A:At bs):∀ k,k<=bs.length->(bF bs k).Nodup/\(bF bs k).length=k
 | 0,_=>⟨Ft,rfl⟩
 | k+1,h=>by obtain⟨h1,h2⟩:=nZ A k (by omega);obtain⟨x,e,hx,hn⟩:=gc A (ts:=bF bs k) (by omega);refine⟨?_,by simp[bF,h2]⟩;show (bF bs k++[(bA bs<|bF bs k).getD ""]).Nodup;rw[e,Ej];exact⟨h1,by simp,λa ha b hb=>by rw[E5.mp hb];exact λz=>hn (by have z:a=x:=z;rw[<- z];exact ha)⟩
noncomputable def cV (ts:List IJ)(x:Str):η:=(ts.filter λt=>decide (t.2.2.1=x)).map (·.2.1)
noncomputable def bo (S:NS):List (Str×η):=S.names.map λx=>(x,cV S.HM x)
theorem wA (ts:List IJ)(t:IJ)(x:Str):cV (ts++[t]) x=cV ts x++(if t.2.2.1=x then [t.2.1] else []):=by
 unfold cV;congr 1;by_cases h:t.2.2.1=x
 ·simp[h]
 ·simp[h]
theorem pi (ts:List IJ)(x:Str):(cV ts x).length<=ts.length:=by unfold cV;rw[DH];exact Eh _ _
theorem t9 (A:At bs):∀ k,k<=bs.length->∀ x,x∈bF bs k->x∈bs.map (·.1)
 | 0,_,x,h=>(EJ h).elim
 | k+1,hk,x,h=>by
  obtain⟨y,ey,hy,_⟩:=gc A (ts:=bF bs k) (by rw[(nZ A k<|by omega).2];omega);unfold bF at h;rcases Ea.mp h with h|h
  ·exact t9 A k (by omega) x h
  ·rw[ey]at h;have:x=y:=by simpa using h
   rw[this];exact hy
theorem oV:∀ {ws:List (Int×Int)},(ws.map (·.1)).Nodup->∀ r∈ws,ws.find? (λx=>decide (x.1=r.1))=some r
 | [],_,_,h=>(EJ h).elim
 | x::ws,nd,r,h=>by
  rw[DX,Ex]at nd;rcases E3.mp h with rfl|h
  ·rw[EO,DM rfl]
  ·have ne:¬ x.1=r.1:=λz=>nd.1<|z▸DS h;rw[EO,DQ ne];exact oV nd.2 r h
theorem jp (h:¬ k∈cs.map (·.1)):aA cs k=none:=by unfold aA;have:(cs.find? λx=>decide (x.1=k))=none:=EU.mpr λx hx z=>h<|DZ z▸DS hx;rw[this];rfl
theorem vG (nd:(cs.map (·.1)).Nodup)(h:r∈cs):aA cs r.1=some r.2:=by unfold aA;rw[oV nd r h];rfl
theorem xD (pm:cs.Perm ds)(nd:(ds.map (·.1)).Nodup)(k:Int):aA cs k=aA ds k:=by
 have nc:=(pm.map _).nodup_iff.mpr nd;by_cases h:k∈ds.map (·.1)
 ·obtain⟨r,hr,rfl⟩:=DI.mp h;rw[vG nd hr,vG nc<|pm.mem_iff.mpr hr]
 ·rw[jp h,jp λz=>h<|(pm.map _).mem_iff.mp z]
theorem nQ:∀ {ř:List aU},(ř.map (·.1)).Nodup->∀ r∈ř,jS ř r.1=some r
 | [],_,_,h=>(EJ h).elim
 | x::ws,nd,r,h=>by
  unfold jS;rw[DX,Ex]at nd;rcases E3.mp h with rfl|h
  ·rw[EO,DM rfl]
  ·have ne:¬ x.1=r.1:=λz=>nd.1<|z▸DS h;rw[EO,DQ ne];exact nQ nd.2 r h
noncomputable def ai (S:NS):List J1:=HR S (bF (bo S) S.names.length)
theorem oG (ds:Cs)(h:k∈cs.map (·.1)):aA (cs++ds) k=aA cs k:=by
 obtain⟨n,hn⟩:=fU h;unfold aA at hn ⊢;rw[GZ]
 cases hf:cs.find? (λx=>decide (x.1=k)) with
 | none=>rw[hf]at hn;cases hn
 | some x=>rfl
theorem xE (h:¬ k∈cs.map (·.1)):aA (cs++[(k,n)]) k=some n:=by
 have hn:=jp h;unfold aA at hn ⊢;rw[GZ]
 cases hf:cs.find? (λx=>decide (x.1=k)) with
 | some x=>rw[hf]at hn;cases hn
 | none=>
  rw[EO,DM rfl];rfl
theorem vP (ds:Cs):∀ {mo:Λ},(∀ ks,mo=some ks->∀ k∈ks,k∈cs.map (·.1))->inc msg (cs++ds) mo=inc msg cs mo
 | none,_=>rfl
 | some ks,h=>E9 λk hk=>by rw[oG ds<|h ks rfl k hk]
theorem lT (F:uw ms):∀ i,i<=ms.length->∀ m∈ms.take i,aA (ay p ř msg fo (ms.take i) []) m.1=some (cq p ř msg fo (ay p ř msg fo (ms.take i) []) m)
 | 0,_,_,h=>by rw[Gj]at h;exact (EJ h).elim
 | i+1,hi,m,h=>by
  have ih:=lT (p:=p) (ř:=ř) (msg:=msg) (fo:=fo) F i (by omega);have Kb:i<ms.length:=by omega
  obtain⟨r,er⟩:∃ r,ms[i]?=some r:=⟨_,DF Kb⟩
  have tk:ms.take (i+1)=ms.take i++[r]:=by rw[F8,er];rfl
  have ck:=cP p ř msg fo (ms.take i) [];rw[Fu,EW]at ck;have nd:=F.nd;rw[<- EF (i+1) ms,DP]at nd;have nd:=(Ej.mp nd).1;rw[tk,DP]at nd;have fr:¬ r.1∈(ay p ř msg fo (ms.take i) []).map (·.1):=λz=>by rw[ck]at z;exact (Ej.mp nd).2.2 _ z _ (by simp) rfl
  rw[tk]at h ⊢;rw[jx];rcases Ea.mp h with h|h
  ·have mk:m.1∈(ay p ř msg fo (ms.take i) []).map (·.1):=by rw[ck];exact DS h
   rw[oG _ mk,ih m h];unfold cq;rw[vP];intro ks VN k hk;rw[ck];obtain⟨j,hj,ej⟩:=FP h;rw[E4]at hj;have ej':ms[j]?=some m:=by rw[List.getElem_take]at ej;rw[DF<|by omega,ej]
   have:=(F.ahead j m ks ej' VN).2 k hk;obtain⟨y,hy,e⟩:=DI.mp this;exact DI.mpr ⟨y,(List.take_sublist_take_left<|by omega).subset hy,e⟩
  ·rw[E5.mp h,xE fr];unfold cq;rw[vP];intro ks VN k hk;rw[ck];exact (F.ahead i r ks er VN).2 k hk
theorem dZ (F:uw ms)(h:m∈ms):aA (ay p ř msg fo ms []) m.1=some (cq p ř msg fo (ay p ř msg fo ms []) m):=by have:=lT (p:=p) (ř:=ř) (msg:=msg) (fo:=fo) F _<|DV _;rw[Et]at this;exact this m h
theorem og (A:At bs):∀ k,k<=bs.length->∀ (i:Nat) x,(bF bs k)[i]?=some x->∃ b∈bs,b.1=x/\∀ y∈b.2,y∈(bF bs k).take i
 | 0,_,i,x,h=>by simp[bF]at h
 | k+1,hk,i,x,h=>by
  have hl:=(nZ A k<|by omega).2;unfold bF at h ⊢;by_cases c:i<(bF bs k).length
  ·rw[Em c]at h;obtain⟨b,hb,e,hy⟩:=og A k (by omega) i x h;exact⟨b,hb,e,λy yy=>by rw[Hh<|by omega];exact hy y yy⟩
  ·rw[Es<|by omega]at h;have ei:i=(bF bs k).length:=by
    by_cases c2:i - (bF bs k).length=0
    ·omega
    ·rw[Ed (by simp;omega)]at h;cases h
   subst ei;rw[Nat.sub_self]at h;obtain⟨z,ez,_,_⟩:=gc A (ts:=bF bs k) (by omega);rw[ez]at h;have h:z=x:=by simpa using h
   subst h;unfold bA at ez;obtain⟨b,hf,hb⟩:=EG.mp ez;refine⟨b,ED hf,hb,λy hy=>?_⟩;rw[Hh<|DV _,Et];have hr:=Fy hf;unfold ig at hr;simp only[F6,Fs,FZ]at hr;exact hr.2 y hy
theorem yO (f:α->List β):∀ (ns:List α)(i:Nat)(m:β),(ns.flatMap f)[i]?=some m->∃ j x,ns[j]?=some x/\m∈f x/\∀ m'∈(ns.take j).flatMap f,m'∈(ns.flatMap f).take i
 | [],i,m,h=>by simp at h
 | a::ns,i,m,h=>by
  rw[GX]at h ⊢;by_cases c:i<(f a).length
  ·rw[Em c]at h;exact⟨0,a,rfl,DO h,λm' hm=>by simp at hm⟩
  ·rw[Es<|by omega]at h;obtain⟨j,x,hj,hm,k⟩:=yO f ns _ m h;refine⟨j+1,x,hj,hm,λm' hm'=>?_⟩;rw[List.take_append,Ff<|by omega];rw[List.take_succ_cons,GX]at hm';rcases Ea.mp hm' with z|z
   ·exact Ew _ z
   ·exact Ec _ (k m' z)
theorem bR {xs:List α}(nd:xs.Nodup){i:Nat}{x:α}(h1:xs[i]?=some x)(h2:xs[j]?=some x):i=j:=by obtain⟨hi,e1⟩:=DJ.mp h1;obtain⟨hj,e2⟩:=DJ.mp h2;exact (List.getElem_inj nd).mp (e1.trans e2.symm)
abbrev LT:=Int×Str×Str
noncomputable def yL (R:List LT)(x:Str):Ξ:=(R.filter λr=>decide (r.2.2=x)).map (·.1)
structure LN (S:NS) (ord:η) (R:List LT):Prop where
 Vg:S.names.Nodup
 ZM:∀ x∈S.names,x∈ord
 nd:ord.Nodup
 zero:ord[0]?=some ("h":Str)
 HM:S.HM.map (λt=>(t.1,t.2.1,t.2.2.1))=R
 mem:∀ r∈R,r.2.1∈S.names/\r.2.2∈S.names
 ok:∀ r∈R,∃ u v:Nat,u<v/\ord[u]?=some r.2.1/\ord[v]?=some r.2.2
 asc:(R.map (·.1)).Pairwise (·<·)
 len:ord.length<=20
 SJ:R.length<=40
section
variable {S:NS}{ord:η}{R:List LT}
theorem LN.QB (h:LN S ord R)(ht:t∈S.HM):∃ u v:Nat,u<v/\ord[u]?=some t.2.1/\ord[v]?=some t.2.2.1:=h.ok _ (h.HM▸DS ht)
theorem LN.SF (h:LN S ord R)(ht:t∈S.HM):t.2.1∈S.names/\t.2.2.1∈S.names:=h.mem _ (h.HM▸DS ht)
theorem LN.P0 (h:LN S ord R):(bo S).map (·.1)=S.names:=by unfold bo;rw[DL];exact List.map_id _
theorem LN.ends (h:LN S ord R):∀ t∈S.HM,t.2.2.1∈S.names:=λt ht=>(h.SF ht).2
theorem LN.RW (h:LN S ord R):At (bo S) where
 nd:=by rw[h.P0];exact h.Vg
 ends:=λb hb y hy=>by rw[h.P0];obtain⟨x,hx,rfl⟩:=DI.mp hb;obtain⟨t,ht,rfl⟩:=DI.mp hy;exact (h.SF (DY.mp ht).1).1
 rk:=by
  refine⟨λx=>ord.idxOf x,λb hb y hy=>?_⟩;obtain⟨x,hx,rfl⟩:=DI.mp hb;obtain⟨t,ht,rfl⟩:=DI.mp hy;obtain⟨ht,Yb⟩:=DY.mp ht;have Yb:=DZ Yb;obtain⟨u,v,uv,h1,h2⟩:=h.QB ht;rw[Yb]at h2;have ix:∀ (i:Nat) z,ord[i]?=some z->ord.idxOf z=i:=λi z hz=>by have hm:=DO hz;have hl:=List.idxOf_lt_length_of_mem hm;exact bR h.nd (by rw[DF hl,List.getElem_idxOf hl]) hz
  show ord.idxOf t.2.1<ord.idxOf x;rw[ix _ _ h1,ix _ _ h2];exact uv
theorem LN.HR (h:LN S ord R):(ai S).Perm (S.HM.map λt=>(t.1,bn S t.2.1)):=by
 have bl:(bo S).length=S.names.length:=DH _;obtain⟨ond,a5Q⟩:=nZ h.RW S.names.length (by omega);have a1r:=λx hx=>by have:=t9 h.RW S.names.length (by omega) x hx;rw[h.P0]at this;exact this
 have XG:=Mw.Pf _ _ ond a1r (by omega);have fin:∀ t∈S.HM,t.2.1∈bF _ S.names.length:=λt ht=>by exact XG _ (h.SF ht).1
 have e1:ai S=((bF (bo S) S.names.length).flatMap λx=>S.HM.filter λt=>decide (t.2.1=x)).map λt=>(t.1,bn S t.2.1):=by unfold ai K92.HR NS.JO;rw[List.map_flatMap];congr 1;funext x;rw[DL];refine E9 λt ht=>?_;have ht:=DZ (DY.mp ht).2;rw[ht];rfl
 rw[e1];exact (Mw.OD (λt:IJ=>t.2.1) _ _ ond fin).map _
theorem LN.keys (h:LN S ord R):((ai S).map (·.1)).Perm (R.map (·.1)):=by have:=h.HR.map (·.1);rw[DL]at this;rw[<- h.HM,DL];exact this
theorem LN.into (h:LN S ord R)(x:Str):S.into x=yL R x:=by unfold NS.into yL;rw[<- h.HM,List.filter_map,DL];rfl
theorem LN.Y4 (h:LN S ord R)(x:Str):(S.into x).length<=1000:=by rw[h.into];unfold yL;rw[DH];have:=Eh (λr:LT=>decide (r.2.2=x)) R;have:=h.SJ;omega
theorem LN.IX (h:LN S ord R):(ai S).length<64:=by have:=h.keys.length_eq;rw[DH,DH]at this;have:=h.SJ;omega
theorem LN.fits (h:LN S ord R):uw (ai S) where
 IX:=h.IX
 nd:=h.keys.nodup_iff.mpr (h.asc.imp λz=>Int.ne_of_lt z)
 ahead:=λi m ks hi hk=>by
  have bl:(bo S).length=S.names.length:=DH _;obtain⟨j,x,hj,hm,up⟩:=yO _ _ _ _ hi;obtain⟨k0,_,rfl⟩:=DI.mp hm;have hk:=hk;have ek:ks=S.into x:=by
   unfold bn at hk;by_cases c:S.Ji.map (·.1)=some x
   ·rw[if_pos c]at hk;cases hk
   ·rw[if_neg c]at hk;exact (Option.some.inj hk).symm
  subst ek;refine⟨h.Y4 x,λk hk=>?_⟩;obtain⟨t,ht0,rfl⟩:=DI.mp hk;obtain⟨Ye,Yb⟩:=DY.mp ht0;obtain⟨b,hb,e,hy⟩:=og h.RW _ (by omega) j x hj;obtain⟨x',_,rfl⟩:=DI.mp hb;have e:=e;subst e;have y:=hy _<|DS (DY.mpr ⟨Ye,Yb⟩);have:=up _<|FE.mpr ⟨_,y,DI.mpr ⟨t.1,DS<|DY.mpr ⟨Ye,DM rfl⟩,rfl⟩⟩;exact DS this
end
noncomputable def bu (S:NS)(ho:Option Str)(N m:Nat)(ç:Θ):List Δ:=ç.map λks=>S.J8.map λg=>uD (bx (aZ S.HM (some ks)) ho g N m)
theorem n9 (ts:List IJ)(h g:Str)(N m:Nat):bx ts (some h) g N m=match dD ts (some h) g N m [] with
  | .inl ks=>.inl ks
  | .inr U=>.inr (gJ h g N m<|ts.filter λt=>JH U t.1):=rfl
theorem c7 {l:List α}{x d:α}(h:l[i]?=some x):l.getD i d=x:=by rw[DG,h];rfl
structure As (p:Int) (t:Θ) (v:Ξ) (m:Nat):Prop where
 len:v.length=m
 fit:RY p v
 some:v.filter (λz=>!decide (z=0))≠[]
 Vz:∀ r∈t,Mx.dot r v % p=0
theorem Co (W:Mc ts x ws y):∀ {X2:List IJ}{t:IJ}{X1:List IJ},ws=X2++t::X1->Mc ts x X2 t.2.1/\t∈ts:=by
 induction W with
 | nil=>intro X2 t X1 e;simp at e
 | @snoc ws t' A ht ih=>
  intro X2 t X1 e;rcases List.eq_nil_or_concat X1 with rfl|⟨ws3,t3,rfl⟩
  ·obtain⟨e1,e2⟩:=Hc e rfl
   cases e2;subst e1;exact⟨A,ht⟩
  ·rw[List.concat_eq_append,<- List.cons_append,<- Ez]at e;obtain⟨e1,_⟩:=Hc e rfl;exact ih e1
theorem gP (W:Mc ts x ws y):(ws=[]/\y=x)\/∃ Qe t,ws=Qe++[t]/\t∈ts/\t.2.2.1=y/\Mc ts x Qe t.2.1:=by
 cases W with
 | nil=>exact .inl ⟨rfl,rfl⟩
 | snoc A ht=>exact .inr ⟨_,_,rfl,ht,rfl,A⟩
theorem Av (k:∀ t∈ts,t∈ts')(W:Mc ts x ws y):Mc ts' x ws y:=by
 induction W with
 | nil=>exact .nil _
 | snoc A ht ih=>exact .snoc ih (k _ ht)
theorem rG (ts:List IJ)(h g:Str):Flow ts (JH []) h g 0:=by exact Flow.none ts h g
structure WN (S:NS) (h:Str) (ord:η) (R:List LT):Prop where
 ln:LN S ord R
 Ji:S.Ji.map (·.1)=some h
 KG:h∈S.names
 no:∀ t∈S.HM,t.2.2.1≠h
 pos:∀ t∈S.HM,0<=t.1
theorem WN.mem (W:WN S h ord R)(ht:t∈S.HM):(t.1,bn S t.2.1)∈ai S:=W.ln.HR.mem_iff.mpr (DI.mpr ⟨t,ht,rfl⟩)
theorem WN.one (W:WN S h ord R)(h1:(k,a)∈ai S)(h2:(k,b)∈ai S):a=b:=by
 obtain⟨i,hi,e1⟩:=EA.mp h1;obtain⟨j,hj,e2⟩:=EA.mp h2;have nd:=W.ln.fits.nd;have g1:((ai S).map (·.1))[i]?=some k:=by rw[DN,DF hi,e1];rfl
 have g2:((ai S).map (·.1))[j]?=some k:=by rw[DN,DF hj,e2];rfl
 have:=bR nd g1 g2;subst this;rw[e1]at e2;exact congrArg Prod.snd e2
theorem WN.a1y (W:WN S h ord R):bn S h=none:=by unfold bn;rw[if_pos W.Ji]
theorem WN.Vk (W:WN S h ord R)(n:x≠h):bn S x=some (S.into x):=by unfold bn;rw[if_neg λz=>n<|Option.some.inj (z.symm.trans W.Ji)]
theorem oQ {S:NS}(ht:t∈S.HM):t.1∈S.into t.2.2.1:=by exact DS (DY.mpr ⟨ht,DM rfl⟩)
theorem WN.sub (W:WN S h ord R)(hs:∀ t∈ts,t∈S.HM):∀ (n:Nat) {ws:List IJ}{y:Str},ws.length=n->Mc ts h ws y->∀ {t:IJ}{i:Nat},t∈S.HM->t.2.1=y->(ai S)[i]?=some (t.1,bn S t.2.1)->(aS ws).Sublist (((ai S).take i).map (·.1))
 | 0,ws,y,hn,A,t,i,ht,ey,hi=>by rw[Gm.mp hn];exact List.nil_sublist _
 | n+1,ws,y,hn,A,t,i,ht,ey,hi=>by
  rcases gP A with⟨rfl,_⟩|⟨Qe,t',rfl,OA,e',A'⟩
  ·simp at hn
  ·have nh:t.2.1≠h:=λz=>W.no t' (hs t' OA) (by rw[e',<- ey,z]);have hk:t'.1∈((ai S).take i).map (·.1):=(W.ln.fits.ahead i _ _ hi<|W.Vk nh).2 _ (by rw[ey,<- e'];exact oQ<|hs t' OA);obtain⟨r,hr,er⟩:=DI.mp hk;obtain⟨j,hj,ej⟩:=GJ.mp hr;have Rf:j<(ai S).length:=by omega
   have ejr:(ai S)[j]?=some (t'.1,bn S t'.2.1):=by rw[DF Rf,ej];obtain⟨k,mx⟩:=r;have er:k=t'.1:=er;subst er;have:=W.one (a:=mx) (b:=bn S t'.2.1) (by rw[<- ej];exact EB Rf)<|W.mem (hs t' OA);rw[this]
   have ih:=WN.sub W hs n (by simpa using hn) A' (hs t' OA) rfl ejr;have tk:((ai S).take<|j+1).map (·.1)=((ai S).take j).map (·.1)++[t'.1]:=by rw[F8,ejr,DP];rfl
   have en:aS (Qe++[t'])=aS Qe++[t'.1]:=by unfold aS;rw[DP];rfl
   rw[en];refine List.Sublist.trans (List.Sublist.append ih<|List.Sublist.refl _) ?_;rw[<- tk];exact Hd _ (List.take_sublist_take_left<|by omega)
theorem WN.whole (W:WN S h ord R)(hs:∀ t∈ts,t∈S.HM)(A:Mc ts h ws y):(aS ws).Sublist ((ai S).map (·.1)):=by
 rcases gP A with⟨rfl,_⟩|⟨Qe,t',rfl,OA,e',A'⟩
 ·exact List.nil_sublist _
 ·obtain⟨i,hi,ei⟩:=EA.mp<|W.mem (hs t' OA);have ei:(ai S)[i]?=some (t'.1,bn S t'.2.1):=by rw[DF hi,ei]
  have ih:=W.sub hs _ rfl A' (hs t' OA) rfl ei;have tk:((ai S).take<|i+1).map (·.1)=((ai S).take i).map (·.1)++[t'.1]:=by rw[F8,ei,DP];rfl
  have en:aS (Qe++[t'])=aS Qe++[t'.1]:=by unfold aS;rw[DP];rfl
  rw[en];refine List.Sublist.trans (List.Sublist.append ih<|List.Sublist.refl _) ?_;rw[<- tk];exact Hd _ (List.take_sublist _ _)
theorem j0 (KG:h∈S.names)(O:R5 S (some ks) N)(e:bx (aZ S.HM (some ks)) (some h) g N m=.inr w):
  ∃ MT:List (List IJ),w=MT.map aS/\MT.length=m/\(∀ ws∈MT,Mc (aZ S.HM (some ks)) h ws g)/\w.flatten.Nodup:=by
 rw[n9]at e;have PT:=O.parts;obtain⟨rk,VF,Yj⟩:=PT.rk;obtain⟨w1,_⟩:=ng PT.nd O.ends KG O.hN m [] 0 (rG _ h g) Ft
 cases hw:dD _ _ g N m [] with
 | inl Rc=>rw[hw]at e;cases e
 | inr U=>
  rw[hw]at e;have F:=(w1 U hw).1;rw[Int.zero_add]at F;obtain⟨MT,e1,e2,e3,e4⟩:=v3 PT.nd VF Yj m _ F;have e:=Sum.inr.inj e;rw[<- e,e1];exact⟨MT,rfl,e2,λws QP=>Av (λt ht=>(DY.mp ht).1)<|e3 ws QP,e4⟩
theorem oY:∀ (l:List Δ)(k:Nat),(∀ x∈l,x.length=n)->((l.zipIdx k).flatMap λx=>x.1.map λways=>(x.2,ways)).length=l.length * n
 | [],_,_=>by simp
 | x::l,k,h=>by rw[List.zipIdx_cons,GX,DT,DH,oY l (k+1) λy hy=>h y<|by simp[hy],h x<|by simp,Eu,Nat.succ_mul];omega
theorem BO (he:Ih∈Mk.HX (bu S ho N m ç)):∃ ks g,ç[Ih.1]?=some ks/\g∈S.J8/\Ih.2=uD (bx (aZ S.HM (some ks)) ho g N m):=by obtain⟨⟨bl,c⟩,hx,hm⟩:=FE.mp he;have hx:=ES.mp hx;unfold bu at hx;rw[DN]at hx;obtain⟨ks,hk,rfl⟩:=EG.mp hx;obtain⟨ways,hw,rfl⟩:=DI.mp hm;obtain⟨g,hg,rfl⟩:=DI.mp hw;exact⟨ks,g,hk,hg,rfl⟩
theorem cg (ht:t∈aZ ts (some ks)):t∈ts/\¬ t.1∈ks:=by obtain⟨h1,h2⟩:=DY.mp ht;exact⟨h1,by simpa using h2⟩
theorem cQ (KG:h∈S.names)(hO:∀ ks∈ç,R5 S (some ks) N/\∀ g∈S.J8,∃ w,bx (aZ S.HM (some ks)) (some h) g N m=.inr w)(he:Ih∈Mk.HX (bu S (some h) N m ç)):
  ∃ ks g,ç[Ih.1]?=some ks/\g∈S.J8/\∃ MT:List (List IJ),Ih.2=MT.map aS/\MT.length=m/\(∀ ws∈MT,Mc (aZ S.HM (some ks)) h ws g)/\Ih.2.flatten.Nodup:=by
 obtain⟨ks,g,hk,hg,e⟩:=BO he;obtain⟨O,hW⟩:=hO ks<|DO hk;obtain⟨w,ew⟩:=hW g hg;obtain⟨MT,a,b,c,d⟩:=j0 KG O ew;rw[ew]at e;have e:=e;exact⟨ks,g,hk,hg,MT,e.trans a,b,c,e▸d⟩
theorem WN.QZ (W:WN S h ord R)(hP:My.JK p=true)(hO:∀ ks∈ç,R5 S (some ks) N/\∀ g∈S.J8,∃ w,bx (aZ S.HM (some ks)) (some h) g N m=.inr w)(IX:((ç.length * S.J8.length:Nat):Int)<=p):
  Mk.Ls p m ç (Mk.HX (bu S (some h) N m ç)) (ai S):=by
 have perm:=W.ln.HR;have RG:∀ x∈ai S,∃ t∈S.HM,x=_:=λx hx=>by obtain⟨t,ht,e⟩:=DI.mp<|perm.mem_iff.mp hx;exact⟨t,ht,e.symm⟩
 have Ro:(S.HM.map (·.1)).Nodup:=by
  have:=W.ln.fits.nd;have pk:=(perm.map (·.1))
  rw[DL]at pk;exact pk.nodup_iff.mp this
 refine⟨hP,W.ln.fits.nd,λx hx=>?_,λx hx ks e=>?_,λi x ks hi e k hk=>(W.ln.fits.ahead i x ks hi e).2 k hk,λIh he=>?_,λIh he=>?_,λIh he way hw=>?_,λIh he way hw l k r e mx hm w hwm=>?_,λIh he=>?_,λIh he way hw k hk=>?_,?_⟩
 ·obtain⟨t,ht,rfl⟩:=RG x hx;exact W.pos t ht
 ·obtain⟨t,ht,rfl⟩:=RG x hx;have e:=e;unfold bn at e;split at e
  ·cases e
  ·cases e;exact Ro.sublist (Hd _ Gh)
 ·obtain⟨ks,g,hk,_⟩:=cQ W.KG hO he;exact (DJ.mp hk).1
 ·obtain⟨ks,g,_,_,MT,e,l,_⟩:=cQ W.KG hO he;rw[e,DH,l]
 ·obtain⟨ks,g,_,_,MT,e,_,wk,_⟩:=cQ W.KG hO he;rw[e]at hw;obtain⟨ws,QP,rfl⟩:=DI.mp hw;exact W.whole (λt ht=>(cg ht).1) (wk ws QP)
 ·obtain⟨ks,g,_,_,MT,e',_,wk,_⟩:=cQ W.KG hO he;rw[e']at hw;obtain⟨ws,QP,rfl⟩:=DI.mp hw;obtain⟨X2,a5p,rfl,e1,e2⟩:=List.map_eq_append_iff.mp e;obtain⟨t,X1,rfl,e3,e4⟩:=List.map_eq_cons_iff.mp e2;obtain⟨A,ht⟩:=Co (wk _ QP) rfl;have T1:=(cg ht).1;have em:=W.one hm<|e3▸W.mem T1;rcases gP A with⟨rfl,eh⟩|⟨Qe,t',rfl,OA,et',_⟩
  ·subst e1;rw[em,eh,W.a1y];exact DS (Eg.mpr hwm)
  ·subst e1;have nh:=λz=>W.no t' (cg OA).1<|et'.trans z;rw[em,W.Vk nh,DP];rw[List.getLast?_append];rw[<- et'];exact oQ (cg OA).1
 ·obtain⟨ks,g,_,_,MT,_,_,_,nd⟩:=cQ W.KG hO he;exact nd
 ·obtain⟨ks,g,LZ,_,MT,e,_,wk,_⟩:=cQ W.KG hO he;rw[e]at hw;obtain⟨ws,QP,rfl⟩:=DI.mp hw;obtain⟨t,ht,rfl⟩:=DI.mp hk;have:=(cg<|(wk ws QP).sub t ht).2;rw[DG,LZ];exact this
 ·have:=oY (bu S (some h) N m ç) 0 λx hx=>by obtain⟨ks,_,rfl⟩:=DI.mp hx;rw[DH]
  unfold Mk.HX;rw[this];unfold bu;rw[DH];exact IX
theorem wr (hj:j<m):(bG p ř fo ms m k).getD j 0=(aA (ay p ř (Mx.HL m j) fo ms []) k).getD 0:=by refine c7 ?_;unfold bG;rw[DN,Fh hj];rfl
theorem Ds (G:Mk.Ls p m ç ê ms)(F:uw ms)(hc:ç[c]?=some ks)(hf:∀ k,jz fo k=decide (k∈ks))(hT:∀ (n:Nat) x,ms[n]?=some x->bD ř x.1=Mk.HZ p m ê (Mk.stN p m ç ê ms n) x):∀ (n:Nat) x,ms[n]?=some x->bG p ř fo ms m x.1=Mk.lk (Mk.OZ p m ç ê ms c) x.1:=by
 intro n
 induction n using Nat.strongRecOn with
 | ind n ih=>
  intro x hx;rw[Mk.Te G hc hx];unfold bG;have one:∀ j,(aA (ay p ř (Mx.HL m j) fo ms []) x.1).getD 0=if x.1∈ks then 0 else Mx.Ig p _ _:=λj=>by
   rw[dZ F<|DO hx];show cq _ _ _ _ _ _=_;unfold cq;rw[hf];by_cases KG:x.1∈ks
   ·rw[if_pos KG,if_pos<|DM KG]
   ·rw[if_neg KG,if_neg<|by simpa using KG]
  unfold Mk.newRow;by_cases KG:x.1∈ks
  ·rw[if_pos KG];apply GB;intro j;rw[DN];by_cases hj:j<m
   ·rw[Fh hj,List.getElem?_replicate_of_lt hj];show some ((aA _ x.1).getD 0)=_;rw[one j,if_pos KG]
   ·rw[Ed<|by simpa using hj,Ed<|by simpa using hj];rfl
  ·rw[if_neg KG];unfold Mx.J7 Mx.cols;rw[DL];refine E9 λj hj=>?_;have hj:=Eg.mp hj;rw[one j,if_neg KG,hT n x hx];show _=Mx.Ig p _ _;rw[Mx.Iv,Mx.Iv,Mx.IP];congr 2
   cases h2:x.2 with
   | none=>
    show Mx.HL m j=Mx.col ((Mk.starts m).map _) j;rw[<- Mx.RS m j hj];congr 1;unfold Mx.ones Mk.starts;rw[DL];exact E9 λw hw=>(Mk.R3 G hc<|Eg.mp hw).symm
   | some Rc=>
    unfold Mx.col;rw[DL];refine E9 λk hk=>?_;obtain⟨r,hr,rfl⟩:=DI.mp<|(F.ahead n x Rc hx h2).2 k hk;obtain⟨i,hi,ei⟩:=GJ.mp hr;have:=ih i (by omega) r (by rw[DF<|by omega,ei]);show _=(Mk.lk _ r.1).getD j 0;rw[<- this,wr hj]
theorem zQ {ws:List IJ}(A:Mc ts x ws g)(hk:(aS ws).getLast?=some k):∃ t∈ts,t.1=k/\t.2.2.1=g:=by
 rcases gP A with⟨rfl,_⟩|⟨Qe,t,rfl,ht,e,_⟩
 ·cases hk
 ·have en:aS (Qe++[t])=aS Qe++[t.1]:=by unfold aS;rw[DP];rfl
  rw[en,List.getLast?_append]at hk;exact⟨t,ht,Option.some.inj hk,e⟩
theorem WN.reads (W:WN S h ord R)(hP:My.JK p=true)(hO:∀ ks∈ç,R5 S (some ks) N/\∀ g∈S.J8,∃ w,bx (aZ S.HM (some ks)) (some h) g N m=.inr w)(IX:((ç.length * S.J8.length:Nat):Int)<=p){c:Nat}(hc:ç[c]?=some ks)(hf:∀ k,jz fo k=decide (k∈ks))(hT:∀ (n:Nat) x,(ai S)[n]?=some x->bD ř x.1=Mk.HZ p m (Mk.HX (bu S (some h) N m ç)) (Mk.stN p m ç (Mk.HX (bu S (some h) N m ç)) (ai S) n) x)(hg:g∈S.J8)(SR:g≠h)(hS:As p (dE S p ř fo (ai S) m g) v m):False:=by
 have G:=W.QZ hP hO IX;have a2v:=Ds G W.ln.fits hc hf hT;obtain⟨O,hW⟩:=hO ks<|DO hc;obtain⟨w,ew⟩:=hW g hg;obtain⟨MT,e1,e2,e3,e4⟩:=j0 W.KG O ew;have a2Q:((c,w))∈Mk.HX (bu S (some h) N m ç):=by refine FE.mpr ⟨(S.J8.map λg=>uD<|bx _ _ g N m,c),ES.mpr ?_,DI.mpr ⟨w,DI.mpr ⟨g,hg,by rw[ew];rfl⟩,rfl⟩⟩;unfold bu;rw[DN,hc];rfl
 obtain⟨e,he⟩:=Fj.mp a2Q;have sep:=λ{y:Ξ} (hy:y.length=m)=>Mk.Td G he (λway hw=>?_) hS.len (λway hw k hk=>?_) hy
 ·apply hS.some;rw[ET];intro z hz;obtain⟨j,hj,ej⟩:=EA.mp hz;have hd:=sep<|Mx.Ic m j;rw[Mx.IP,Mx.IY _ _ _ hS.len,DG,DF hj]at hd;have hd:=hd;rw[ej]at hd;have f:=hS.fit z hz;have:z=0:=by
   rcases Int.lt_trichotomy z 0 with q|q|q
   ·omega
   ·exact q
   ·have:=Hf q hd;omega
  rw[this];simp
 ·have hw:=hw;rw[e1]at hw;obtain⟨ws,QP,rfl⟩:=DI.mp hw;intro z;rcases gP (e3 ws QP) with⟨_,eg⟩|⟨Qe,t,rfl,_⟩
  ·exact SR eg
  ·unfold aS at z;simp at z
 ·have hw:=hw;rw[e1]at hw;obtain⟨ws,QP,rfl⟩:=DI.mp hw;obtain⟨t,ht,rfl,etg⟩:=zQ (e3 ws QP) hk;have T1:=(cg ht).1;obtain⟨i,hi,ei⟩:=EA.mp<|W.mem T1;have:=a2v i _ (by rw[DF hi,ei]);have this:=this;rw[<- this,Mx.IP];refine ER (hS.Vz _ ?_);exact DI.mpr ⟨t.1,etg▸oQ T1,rfl⟩
theorem cover:∀ (m:Nat)(ps:À),(∀ q,q<m->q∈ps)->m<=ps.length
 | 0,_,_=>EE _
 | m+1,ps,h=>by have hm:=h m<|EX m;have:=cover m (ps.erase m) λq hq=>(Gd<|by omega).mpr<|h q (by omega);rw[Gg hm]at this;have:0<ps.length:=GV hm;omega
structure a3t (p:Int) (t:Θ) (m:Nat) (L:Nat):Prop where
 rd:(Mx.II (red p (Mx.joined t) m) m).length=L
 le:L<=m
 un:fQ p t m=[] ↔ L=m
theorem yX (hP:My.JK p=true)(S:Mx.Sh p m t):∃ L,a3t p t m L:=by
 have OB:=((My.HY p).mp hP).1;have Sj:=Mx.LJ (by omega) S;obtain⟨ps,a1,a2,a3,_⟩:=Mx.RR.run (by omega) (My.O2 hP) Sj m;obtain⟨Ry,b1,b2,b3,_⟩:=Mx.RR.run (by omega) (My.O2 hP) S m;have e1:=Mx.J0 a2;have e2:=Mx.J0 b2;have el:ps.length=Ry.length:=by have:=Mx.Pk (p:=p) (bk:=My.bk p) (ř:=Mx.joined t) m<|DV _;rw[Mx.Pq S]at this;rw[<- a1,<- b1,this]
 refine⟨ps.length,by rw[e1],by rw[el];exact b2.IX,?_⟩;have eu:fQ p t m=(List.range m).filter λq=>!decide (q∈Ry):=by unfold fQ J5;rw[e2]
 rw[eu,el];constructor
 ·intro h;have:=cover m Ry λq hq=>by
   by_cases c:q∈Ry
   ·exact c
   ·have:q∈(List.range m).filter λq=>!decide (q∈Ry):=DY.mpr ⟨Eg.mpr hq,by simpa using c⟩;rw[h]at this
    cases this
  have:=b2.IX;omega
 ·intro h;have:=b2.all h;rw[this,ET];intro q hq;simpa using Eg.mp hq
noncomputable abbrev rdr (p:Int)(t:Θ)(m:Nat):Θ:=((red p (Mx.joined t) m).take m).map (List.drop m)
structure Reads (p:Int) (t R:Θ) (m:Nat):Prop where
 len:R.length=m
 LW:∀ r∈R,r.length=t.length
 fit:∀ r∈R,RY p r
 ones:∀ i j,i<m->j<m->Mx.dot (R.getD i []) (Mx.col t j) % p=if i=j then 1 else 0
theorem zu (hP:My.JK p=true)(S:Mx.Sh p m t)(h:(Mx.II (red p (Mx.joined t) m) m).length=m):Reads p t (rdr p t m) m:=by
 have OB:=((My.HY p).mp hP).1;have Sj:=Mx.LJ (by omega) S;obtain⟨ps,a1,a2,a3,a4⟩:=Mx.RR.run (by omega) (My.O2 hP) Sj m;have e1:=Mx.J0 a2;rw[e1]at h;have Sg:=a2.all h;have hl:(red p (Mx.joined t) m).length=t.length:=by rw[a3,Mx.Je]
 have hm:m<=(red p (Mx.joined t) m).length:=by have h2:=a2.len;rw[h]at h2;exact h2
 have mem:∀ r∈rdr p t m,∃ r0∈red p (Mx.joined t) m,r=r0.drop m:=λr hr=>by obtain⟨r0,h0,rfl⟩:=DI.mp hr;exact⟨r0,GD h0,rfl⟩
 refine⟨by rw[DH,E4];omega,λr hr=>?_,λr hr=>?_,λi j hi hj=>?_⟩
 ·obtain⟨r0,h0,rfl⟩:=mem r hr;rw[GI,a2.sh.LW r0 h0];omega
 ·obtain⟨r0,h0,rfl⟩:=mem r hr;intro z hz;exact a2.sh.fit r0 h0 z (Hi hz)
 ·have:=Mx.QE (by omega) S a2 Sg hl a4 i j hi hj;have eg:(rdr p t m).getD i []=((red p (Mx.joined t) m).getD i []).drop m:=by
   have OU:i<(red p (Mx.joined t) m).length:=by omega
   refine c7 ?_;rw[DN,EK hi,DF OU,c7<|DF OU];rfl
  rw[eg];exact this
theorem yo (hP:My.JK p=true)(S:Mx.Sh p m t)(h:fQ p t m=u::rest):As p t (Mx.Iw p (red p t m) (J5 p t m) m u) m:=by
 have OB:=((My.HY p).mp hP).1;obtain⟨ps,b1,b2,b3,b4⟩:=Mx.RR.run (by omega) (My.O2 hP) S m;have e2:J5 p t m=ps:=Mx.J0 b2;have hu:u∈fQ p t m:=by rw[h];exact E7
 obtain⟨hu1,hu2⟩:=DY.mp hu;have hum:=Eg.mp hu1;have Ya:u∉ps:=by rw[e2]at hu2;simpa using hu2
 obtain⟨n1,n2,n3,n4⟩:=Mx.QI (by omega) b2 hum Ya;rw[e2];generalize Mx.Iw p _ ps m u=v at n1 n2 n3 n4;refine⟨n3,n4,λz=>?_,λr hr=>FH<|(b4 v).mp n1 r hr⟩;have hv:v.getD u 0∈v:=eU (by omega);have:v.getD u 0∈v.filter (λz=>!decide (z=0)):=DY.mpr ⟨hv,by have n2':v.getD u 0=1:=n2;rw[n2'];rfl⟩
 rw[z]at this
 cases this
theorem vJ (hP:My.JK p=true)(S:Mx.Sh p m t):(∃ R,gy p t m=.tup [.str "reads",tb R]/\Reads p t R m)\/∃ v,gy p t m=.tup [.str "alike",rw (List.replicate m 0),rw v]/\As p t v m:=by
 obtain⟨L,B⟩:=yX hP S;unfold gy uU;by_cases c:(J5 p (Mx.joined t) m).length<m
 ·rw[if_pos c];refine .inr ?_;unfold mR
  cases hu:fQ p t m with
  | nil=>
   have:=B.un.mp hu;have:(J5 p _ m).length=L:=B.rd;omega
  | cons u rest=>exact⟨_,rfl,yo hP S hu⟩
 ·rw[if_neg c];have:(J5 p _ m).length=L:=B.rd;have:=B.le;exact .inl ⟨_,rfl,zu hP S (by show (J5 p _ m).length=m;omega)⟩
theorem agree (F:uw ms){A:Int->Prop}(hA:∀ m∈ms,A m.1->aA (ay p ř a fo ms []) m.1=aA (ay p ř b fo ms []) m.1\/∃ ks,m.2=some ks/\∀ k∈ks,A k):
  ∀ (n:Nat)(m:J1),ms[n]?=some m->A m.1->aA (ay p ř a fo ms []) m.1=aA (ay p ř b fo ms []) m.1:=by
 intro n
 induction n using Nat.strongRecOn with
 | ind n ih=>
  intro m hm ha;have mm:=DO hm;rcases hA m mm ha with h|⟨ks,e,hk⟩
  ·exact h
  ·rw[dZ F mm,dZ F mm];unfold cq;rw[e];have:inc a (ay p _ a fo ms []) (some ks)=inc b (ay p _ b fo ms []) (some ks):=E9 λk LZ=>by obtain⟨x,hx,ex⟩:=DI.mp<|(F.ahead n m ks hm e).2 k LZ;obtain⟨i,hi⟩:=Fj.mp hx;have il:=(DJ.mp hi).1;rw[E4]at il;rw[EK<|by omega]at hi;rw[<- ex,ih i (by omega) x hi<|ex▸hk k LZ]
   rw[this]
theorem Reads.no (hp:2<=p)(S:Mx.Sh p m t)(h:Reads p t R m)(hv:As p t v m):False:=by
 have z0:∀ (r:Ξ)(l:Θ),Mx.dot r (l.map λ_=>0)=0:=λr=>by
  induction r with
  | nil=>intro l;rfl
  | cons x r ih=>
   intro l
   cases l with
   | nil=>rfl
   | cons y l=>show x * 0+Mx.dot r _=0;rw[ih];omega
 have all:∀ i,i<m->v.getD i 0=0:=λi hi=>by
  have mr:R.getD i []∈R:=eU (by rw[h.len];exact hi);have h1:=Mx.MN t m _ v S.LW hv.len<|h.LW _ mr;have h2:(Mx.M' t m<|R.getD i []).map (· % p)=Mx.HL m i:=by
   unfold Mx.M' Mx.cols Mx.HL;rw[DL,DL];refine E9 λj hj=>?_;show Mx.dot _ _ % p=_;rw[Mx.IP,h.ones i j hi<|Eg.mp hj];by_cases e:i=j
   ·rw[if_pos e,if_pos e.symm]
   ·rw[if_neg e,if_neg<|Ne.symm e]
  have h3:(Mx.Pe t v).map (· % p)=t.map λ_=>(0):=by unfold Mx.Pe;rw[DL];exact E9 λr hr=>hv.Vz r hr
  have h4:v.getD i 0 % p=0:=by rw[<- Mx.IY m i v hv.len,<- h2,Mx.JA,h1,<- Mx.Jx,h3,z0];rfl
  have f:=hv.fit _<|eU (z:=0) (by rw[hv.len];exact hi);rwa [F9 f.1 f.2]at h4
 refine hv.some (ET.mpr λz hz=>?_);obtain⟨i,hi,ei⟩:=EA.mp hz;have:=all i (by rw[<- hv.len];exact hi);rw[DG,DF hi]at this;rw[<- ei,show v[i]=0 from this];exact nofun
theorem p7:∀ (r:Ξ){α:Type}(l:List α),Mx.dot (l.map λ_=>(0:Int)) r=0
 | _,_,[]=>rfl
 | [],_,_::_=>rfl
 | x::r,_,_::l=>by show 0 * x+Mx.dot (l.map λ_=>(0:Int)) r=0;rw[p7 r l];omega
theorem ko (F:uw ms){many:Nat}(hr:∀ m∈ms,jz fo m.1=false->((bD ř m.1).length:Int)=wide many m.2)(hm:msg.length=many):
  ∀ (n:Nat)(m:J1),ms[n]?=some m->aA (ay p ř msg fo ms []) m.1=some (Mx.dot (bG p ř fo ms many m.1) msg % p):=by
 intro n
 induction n using Nat.strongRecOn with
 | ind n ih=>
  intro m hmn;have mm:=DO hmn;have one:∀ j,(aA _ m.1).getD 0=cq p ř (Mx.HL many j) fo _ m:=λj=>by rw[dZ F mm];rfl
  rw[dZ F mm];congr 1;have ec:bG p ř fo ms many m.1=(List.range many).map λj=>cq p ř _ fo _ m:=E9 λj _=>one j;rw[ec];unfold cq
  cases hf:jz fo m.1 with
  | true=>
   simp only[if_pos];rw[p7];rfl
  | false=>
   simp only[if_neg Ef];have hl:=hr m mm hf;simp only[Mx.Iv]
   cases e:m.2 with
   | none=>
    rw[e]at hl;have hl:=Int.ofNat.inj hl;show Mx.dot _ msg % p=Mx.dot ((List.range many).map λj=>Mx.dot _ (Mx.HL many j) % p) msg % p;rw[show ((List.range many).map λj=>Mx.dot (bD ř m.1) (Mx.HL many j) % p)=(bD ř m.1).map (· % p) by rw[<- Mx.JP (bD ř m.1) many hl,DL];refine E9 λj _=>?_;show Mx.dot _ _ % p=_ % p;rw[Mx.JP _ many hl,Mx.IP,Mx.IY _ _ _ hl],Mx.JA]
   | some ks=>
    rw[e]at hl;have hl:=Int.ofNat.inj hl;have at':∀ k∈ks,∃ i x,i<n/\ms[i]?=some x/\x.1=k:=λk hk=>by obtain⟨x,hx,ex⟩:=DI.mp<|(F.ahead n m ks hmn e).2 k hk;obtain⟨i,hi⟩:=Fj.mp hx;have il:=(DJ.mp hi).1;rw[E4]at il;rw[EK<|by omega]at hi;exact⟨i,x,by omega,hi,ex⟩
    have e1:inc msg (ay p ř msg fo ms []) (some ks)=(Mx.Pe (ks.map λk=>bG p ř fo ms many k) msg).map (· % p):=by unfold Mx.Pe;rw[DL,DL];refine E9 λk hk=>?_;obtain⟨i,x,hi,hx,rfl⟩:=at' k hk;rw[ih i hi x hx];rfl
    have e2:((List.range many).map λj=>Mx.dot (bD ř m.1) (inc (Mx.HL many j) (ay p ř (Mx.HL many j) fo ms [])<|some ks) % p)=(Mx.M' (ks.map λk=>bG p ř fo ms many k) many<|bD ř m.1).map (· % p):=by unfold Mx.M' Mx.cols;rw[DL,DL];refine E9 λj hj=>?_;rw[Mx.IP];congr 2;unfold Mx.col inc;rw[DL];refine E9 λk _=>?_;show _=(bG p ř fo ms many k).getD j 0;rw[wr<|Eg.mp hj]
    rw[e1,e2,Mx.Jx,Mx.JA,Mx.MN _ many _ _ (λb hb=>by obtain⟨k,_,rfl⟩:=DI.mp hb;unfold bG;rw[DH,Er]) hm (by rw[DH];exact hl)]
theorem Bt (hP:My.JK p=true)(S:Mx.Sh p m t)(h:t.length<m):∃ v,As p t v m:=by
 have OB:=((My.HY p).mp hP).1;obtain⟨L,B⟩:=yX hP S
 cases hu:fQ p t m with
 | cons u rest=>exact⟨_,yo hP S hu⟩
 | nil=>
  have e:=B.un.mp hu;have Sj:=Mx.LJ (by omega) S;obtain⟨ps,a1,a2,a3,_⟩:=Mx.RR.run (by omega) (My.O2 hP) Sj m;have e1:=Mx.J0 a2;have l1:=a2.len;have l2:=B.rd;rw[e1]at l2;have l3:(red p (Mx.joined t) m).length=t.length:=by rw[a3,Mx.Je]
  have l1:ps.length<=(red p _ m).length:=l1;omega
theorem rP (c:Ξ)(m:Nat):Mx.dot c (List.replicate m 0)=0:=by rw[Mx.IP];have:=p7 c<|List.range m;rwa [List.map_const',Er]at this
theorem xw (F:uw ms){p m:Nat}(hP:My.JK p=true)(hr:∀ x∈ms,jz fo x.1=false->((bD ř x.1).length:Int)=wide m x.2){ks:Ξ}(hk:ks.length<m)(KG:∀ k∈ks,k∈ms.map (·.1)):
  ∃ v∈My.msgs p m,(!decide (v=List.replicate m 0))=true/\(∀ k∈ks,Mx.dot (bG p ř fo ms m k) v % p=0)/\∀ k∈ks,aA (ay p ř v fo ms []) k=aA (ay p ř (List.replicate m 0) fo ms []) k:=by
 have OB:=((My.HY p).mp hP).1;obtain⟨v,hv⟩:=Bt (t:=ks.map λk=>bG p _ fo ms m k) hP ⟨λr hr=>by obtain⟨k,_,rfl⟩:=DI.mp hr;unfold bG;rw[DH,Er],λr hr=>by obtain⟨k,_,rfl⟩:=DI.mp hr;exact rW (by omega) _ fo ms m k⟩ (by rw[DH];exact hk);have Vz:∀ k∈ks,Mx.dot _ v % p=0:=λk LZ=>hv.Vz _<|DS LZ;refine⟨v,My.Pn hv.len λx hx=>hv.fit x hx,?_,Vz,λk LZ=>?_⟩
 ·rw[Bool.not_eq_true',decide_eq_false_iff_not];intro e;refine hv.some (ET.mpr λz hz=>?_);rw[e]at hz;rw[F5 hz];exact nofun
 ·obtain⟨x,hx,rfl⟩:=DI.mp<|KG k LZ;obtain⟨i,hi⟩:=Fj.mp hx;rw[ko F hr hv.len i x hi,ko F hr (FV ..) i x hi,Vz x.1 LZ,rP];rfl
theorem WN.behind (W:WN S h ord R){B:Str->Bool}(hh:B h=true)(hc:∀ t∈S.HM,jz fo t.1=false->B t.2.1=true->B t.2.2.1=false->aA (ay p ř a fo (ai S) []) t.1=aA (ay p ř b fo (ai S) []) t.1):∀ t∈S.HM,B t.2.2.1=false->aA (ay p ř a fo (ai S) []) t.1=aA (ay p ř b fo (ai S) []) t.1:=λt ht hb=>by
 obtain⟨n,hn⟩:=Fj.mp<|W.mem ht;refine agree W.ln.fits (A:=λk=>∃ t∈S.HM,t.1=k/\B t.2.2.1=false) (λm hm gR=>?_) n _ hn ⟨t,ht,rfl,hb⟩;obtain⟨u,hu,e,hub⟩:=gR;have em:=W.one (by rw[e];exact hm) (W.mem hu)
 cases hf:jz fo m.1 with
 | true=>left;rw[dZ W.ln.fits hm,dZ W.ln.fits hm];unfold cq;rw[if_pos hf,if_pos hf]
 | false=>
  cases hx:B _ with
  | true=>left;rw[<- e];exact hc u hu (by rw[e];exact hf) hx hub
  | false=>
   refine .inr ⟨S.into _,by rw[em,W.Vk λz=>by rw[z,hh]at hx;cases hx],λk hk=>?_⟩;obtain⟨v,hv,rfl⟩:=DI.mp hk;obtain⟨hv1,hv2⟩:=DY.mp hv;exact⟨v,hv1,rfl,by rw[DZ hv2];exact hx⟩
theorem rE:∀ {ms:List J1}{cs:Cs},(∀ m∈ms,bD r1 m.1=bD r2 m.1)->ay p r1 msg fo ms cs=ay p r2 msg fo ms cs
 | [],_,_=>rfl
 | m::ms,cs,h=>by unfold ay;rw[show cq p r1 msg fo cs m=cq p r2 msg fo cs m by unfold cq;rw[h m E7]];exact rE λx hx=>h x (E6 _ hx)
theorem AA (h:∀ x∈ms,bD r1 x.1=bD r2 x.1):dE S p r1 fo ms m g=dE S p r2 fo ms m g:=by exact E9 λk _=>E9 λj _=>by rw[rE h]
theorem vS (nd:(ms.map (·.1)).Nodup):∀ x∈ms,bD (bZ ms ř) x.1=bD ř x.1:=λx hx=>by unfold bD;rw[vT nd hx];rfl
structure Wr (S:NS) (p m:Nat) (ř:List aU) (fs ks:Ξ) (g:Str):Prop where
 RG:∀ k∈ks,k∈(ai S).map (·.1)
 IX:ks.length<m
 beh:∀ a b,(∀ k∈ks,aA (ay p ř a (some fs) (ai S) []) k=aA (ay p ř b (some fs) (ai S) []) k)->∀ k∈S.into g,aA (ay p ř a (some fs) (ai S) []) k=aA (ay p ř b (some fs) (ai S) []) k
 msg:∃ v∈My.msgs p m,(!decide (v=List.replicate m 0))=true/\(∀ k∈ks,aA (ay p ř v (some fs) (ai S) []) k=aA (ay p ř (List.replicate m 0) (some fs) (ai S) []) k)/\As p (dE S p ř (some fs) (ai S) m g) v m
theorem WN.narrow {S:NS}{h:Str}{ord:η}{R:List LT} (W:WN S h ord R) {p m N:Nat} (hP:My.JK p=true) {ř:List aU}{fs ks:Ξ}{g:Str} (O:R5 S (some fs) N) (e:bx (aZ S.HM (some fs)) (some h) g N m=.inl ks)
  (hr:∀ x∈ai S,jz (some fs) x.1=false->((bD ř x.1).length:Int)=wide m x.2):Wr S p m ř fs ks g:=by
 have OB:2<=(p:Int):=((My.HY p).mp hP).1;rw[n9]at e;obtain⟨_,w2⟩:=ng O.parts.nd O.ends W.KG O.hN m [] 0 (rG _ h g) Ft
 cases hw:dD (aZ S.HM<|some fs) (some h) g N m [] with
 | inr U=>rw[hw]at e;cases e
 | inl Rc=>
  rw[hw]at e;have e:Rc=ks:=Sum.inl.inj e;subst e;obtain⟨i,V,B,hi,_,_,C,hl⟩:=w2 _ hw;have IX:Rc.length<m:=by omega
  have a29:∀ t∈S.HM,jz (some fs) t.1=false->B t.2.1=true->B t.2.2.1=false->t.1∈Rc:=λt ht hf h1 h2=>by
   rw[C.ks];exact DS (f:=λt:IJ=>t.1) (DY.mpr ⟨DY.mpr ⟨ht,by have:decide (t.1∈fs)=false:=hf;rw[this];rfl⟩,by unfold xU;rw[h1,h2];rfl⟩)
  have RG:∀ k∈Rc,k∈(ai S).map (·.1):=λk hk=>by rw[C.ks]at hk;obtain⟨t,ht,rfl⟩:=DI.mp hk;exact DS (f:=λm:J1=>m.1) (W.mem (cg (DY.mp ht).1).1)
  have beh:∀ a b,(∀ k∈Rc,aA (ay p ř a (some fs) (ai S) []) k=aA (ay p ř b (some fs) (ai S) []) k)->∀ k∈S.into g,aA (ay p ř a (some fs) (ai S) []) k=aA (ay p ř b (some fs) (ai S) []) k:=λa b YG k hk=>by obtain⟨t,ht,rfl⟩:=DI.mp hk;obtain⟨Ye,ht2⟩:=DY.mp ht;exact W.behind C.hh (λt ht hf h1 h2=>YG _<|a29 t ht hf h1 h2) t Ye (by rw[DZ ht2];exact C.hg)
  obtain⟨v,hv,hn,Vz,VM⟩:=xw W.ln.fits hP hr IX RG;have WA:=My.OO hv;refine⟨RG,IX,beh,v,hv,hn,VM,WA.1,WA.2,λz=>?_,λr RJ=>?_⟩
  ·rw[Bool.not_eq_true',decide_eq_false_iff_not]at hn;refine hn<|List.eq_replicate_iff.mpr ⟨WA.1,λx hx=>?_⟩;have:=ET.mp z x hx;simpa using this
  ·obtain⟨k,hk,rfl⟩:=DI.mp RJ;have:=beh v (List.replicate m 0) VM k hk;obtain⟨t,ht,rfl⟩:=DI.mp hk;obtain⟨n,WD⟩:=Fj.mp<|W.mem (DY.mp ht).1;rw[ko W.ln.fits hr WA.1 n _ WD,ko W.ln.fits hr (FV ..) n _ WD,rP]at this;exact Option.some.inj this
theorem oI (nd:(ms.map (·.1)).Nodup):kb (OL (·.1) (ay p ř a fo ms [])) (OL (·.1) (ay p ř b fo ms [])) ks=true ↔ ∀ k∈ks,aA (ay p ř a fo ms []) k=aA (ay p ř b fo ms []) k:=by have hk:=λr=>cP p ř r fo ms [];have e:=λr k=>xD (Jd (f:=λx:Int×Int=>x.1)) (by rw[hk r];exact nd) k;unfold kb;rw[Fs];exact⟨λh k LZ=>by have:=DZ<|h k LZ;rwa [e,e]at this,λh k LZ=>DM (by rw[e,e];exact h k LZ)⟩
theorem WN.PZ {c:Cl}{QG:NS->Æ}{S:NS}{h:Str}{ord ns:η}{R:List LT} (W:WN S h ord R) (Nw:ya QG S ns) (en:HR S ns=ai S) {p m N:Nat} (hP:My.JK p=true) (hp:p<=100) (hm:m<=100) (hz:p ^ m<=1000) {ř:List aU} (G:Nr m p (HR S ns) ř) {fs ks:Ξ}{g:Str} (hg:g∈S.J8) (VG:S.Ia.length<=100) (O:R5 S (some fs) N) (e:bx (aZ S.HM (some fs)) (some h) g N m=.inl ks):
  kJ c (dq c QG) (wE c QG) [aI c S,bz ř,.int m,.int p,rw fs,.tup [.str g,rw ks]] (.bl true):=by
 have OB:2<=(p:Int):=((My.HY p).mp hP).1;have tz:=Nw.tz;have nd:=Nw.fits.nd;have hr:∀ x∈ai S,jz (some fs) x.1=false->((bD ř x.1).length:Int)=wide m x.2:=λx hx _=>by obtain⟨r,h1,h2,_⟩:=G.row x (by rw[en];exact hx);rw[show bD ř x.1=r.2 by unfold bD;rw[h1];rfl];exact h2
 obtain⟨a1,a2,a3,v,hv,hn,VM,hS⟩:=W.narrow hP O e hr;rw[<- en]at a1 a3 VM hS;have IX:=Nw.fits.IX;have iz:(S.into g).length<=S.HM.length:=by unfold NS.into;rw[DH];exact Eh _ _
 have gn:g∈S.names:=by obtain⟨q,h1,h2⟩:=DI.mp hg;exact DI.mpr ⟨q,(DY.mp h1).1,h2⟩
 have RG:∀ t∈S.HM,t.1∈(HR S ns).map (·.1):=λt ht=>by rw[en];exact DS (f:=λm:J1=>m.1) (W.mem ht)
 have Fl:wI p (HR S ns) ř (some fs):=⟨by omega,by omega,Nw.fits,λx hx _=>by obtain⟨r,h1,_,h3,h4⟩:=G.row x hx;exact⟨r,h1,h3,h4⟩⟩
 have et:=AA (S:=S) (p:=p) (fo:=some fs) (m:=m) (g:=g)<|vS (ř:=ř) nd;have sh:=(sk (S:=S) (p:=p) (rs:=ř) (fo:=some fs) (ms:=HR S ns) (many:=m) (g:=g) (by omega) (by omega) hm).sh;have ln:S.J8.Nodup:=List.Nodup.sublist (Hd _ Gh) W.ln.Vg;rcases vJ hP sh with⟨R',_,hR⟩|⟨v',ej,_⟩
 ·exact (hR.no OB sh hS).elim
 ·refine .mk (cs:=λr=>OL (·.1)<|ay p ř r (some fs) (HR S ns) []) gn (by omega) hm hp hz (by omega) (by omega) (by omega) (.mk (fo:=some fs) Nw hP (by omega) G hm VG W.ln.Vg RG) (by rw[fO (Vf (f:=λz=>z)<|by rwa [List.map_id'])<|DS (f:=λg=>((.inr g:Key),gy p (dE S p (bZ (HR S ns) ř) (some fs) (HR S ns) m g) m)) hg,et,ej]) (.mk (fo:=some fs) Nw.ord Nw.SS (by omega) hP Fl) (λr _=>.mk (fo:=some fs) Nw.ord Nw.SS (by omega) hP Fl) (λr k hk=>?_) (λr _ hl=>(oI nd).mpr<|a3 _ _ ((oI nd).mp hl)) ⟨v,hv,(oI nd).mpr VM,hn⟩
  refine ((Jd (f:=λx:Int×Int=>x.1)).map _).mem_iff.mpr ?_;rw[cP];rcases hk with hk|hk
  ·exact a1 k hk
  ·obtain⟨t,ht,rfl⟩:=DI.mp hk;exact RG t (DY.mp ht).1
theorem WN.RD (W:WN S h ord R)(Nw:ya QG S ns)(en:HR S ns=ai S){m:Nat}(hP:My.JK p=true)(hp:p<=1000000)(Uj:1<=m)(hm:m<=100)(hz:m * N+N<=1000)(G:Nr m p (HR S ns) ř)(VG:S.Ia.length<=100)(O:R5 S (some []) N)(hw:∀ g∈S.J8,∃ w,bx (aZ S.HM (some [])) (some h) g N m=.inr w)(IX:(S.J8.length:Int)<=p)(SR:∀ g∈S.J8,g≠h)(hT:∀ (n:Nat) x,(ai S)[n]?=some x->bD ř x.1=Mk.HZ p m (Mk.HX (bu S (some h) N m [[]])) (Mk.stN p m [[]] (Mk.HX (bu S (some h) N m [[]])) (ai S) n) x)(M:Rm [aI c S,.int m,fD C p,tb [[]],Rr [bS S N m []]] (bz ř)):
  pL (dA c C Rm) (dq c QG) [aI c S,.int m,.int p] (.bl true):=by
 have OB:=((My.HY p).mp hP).1;have tz:=Nw.tz;have nd:=Nw.fits.nd;have ll:S.J8.length<=S.Ia.length:=by unfold NS.J8;rw[DH];exact Eh _ _
 have RG:∀ t∈S.HM,t.1∈(HR S ns).map (·.1):=λt ht=>by rw[en];exact DS (W.mem ht)
 refine .mk (.mk hP hp O (by rw[W.Ji];exact hw) (by omega) Uj (by omega) hz IX M) (.mk (fo:=none) Nw hP hp G hm VG W.ln.Vg RG) (by omega) λg hg=>?_;have iz:(S.into g).length<=S.HM.length:=by unfold NS.into;rw[DH];exact Eh _ _
 have sh:=(sk (S:=S) (p:=p) (rs:=bZ (HR S ns) ř) (fo:=none) (ms:=HR S ns) (g:=g) (by omega) (by omega) hm).sh;rcases vJ hP sh with⟨R',e,_⟩|⟨v',_,hS⟩
 ·exact⟨_,e⟩
 ·rw[en]at hS;exact (W.reads (c:=0) hP (λks hk=>by rw[E5.mp hk];exact⟨O,hw⟩) (by simpa using IX) rfl (λk=>rfl) (λn x hx=>by rw[vS (by rw[<- en];exact nd) x<|DO hx];exact hT n x hx) hg (SR g hg) hS).elim
theorem pb {nm:List α}{kf:α->Key}{u:α->D}(sF:f' F H)(hJ:Qz F J (nm.map u))(hl:nm.length<=1000)(ht:∀ x∈nm,∀ v H1 (Q:VK),DR H1 (u x) v->(∀ a t H2,f' H1 H2->H1 a=none->H1 t=none->H2 a=some (.lst [])->H2 t=some (.tup [kV (kf x),.ref a])->Q (.ref t) H2)->te (some v::js.map λj=>(σ[j]?).join) H1 Q)(hd:∀ lc H' (as:υ) vs,f' H H'->H lc=none->H' lc=some (.lst vs)->as.length=nm.length->as.Nodup->(∀ a∈as,H' a=some (.lst [])/\H a=none)->Paired (λv (kv:Key×V)=>∃ t,v=.ref t/\H' t=some (.tup [kV kv.1,kv.2])) vs (bi kf nm as)->G lc H'):gC 1 js (bU 0) wP te σ G J H:=by
 intro lc Q1;refine⟨λi m σ' H1=>m=nm.length - i/\i<=nm.length/\(∃ o,σ'=o::js.map λj=>(σ[j]?).join)/\f' H H1/\∃ as,as.length=i/\as.Nodup/\(∀ a∈as,H1 a=some (.lst [])/\H a=none/\a≠lc)/\∃ vs,H1 lc=some (.lst vs)/\Paired (λv kv=>∃ t,v=.ref t/\H1 t=some (.tup [kV kv.1,kv.2])) vs (bi kf (nm.take i) as),⟨nm.length,by simp,EE _,⟨none,rfl⟩,aV (f'.refl _) Q1,[],rfl,Ft,(λa ha=>nomatch ha),[],ag,.nil⟩,?_⟩;rintro i m σ' H1 ⟨rfl,hi,⟨o,rfl⟩,e1,as,Rg,WQ,has,vs,NC,RK⟩;by_cases c:i<nm.length
 ·have ex:=DF c;obtain⟨go,yl⟩:=hJ.go H1 i _ (sF.trans e1) (by rw[DN,ex];rfl);refine .inr ⟨go,λx H2 y=>?_⟩;obtain⟨e2,dx⟩:=yl x H2 y;refine⟨λ_=>False,λv H5=>∃ a t,v=.ref t/\f' H2 H5/\H2 a=none/\H2 t=none/\H5 a=some (.lst [])/\H5 t=some (.tup [kV<|kf nm[i],.ref a]),λ_ h=>h.elim,λv H5 h=>?_,?_⟩
  ·obtain⟨a,t,rfl,e5,YH,ht0,ha,ht⟩:=h;have Z2:=e2.trans e5;have vl:=Paired.length RK;have RI:(bi kf (nm.take i) as).length=i:=by unfold bi;rw[DH,Fd,E4];omega
   have Zj:=(aq (e2 _ _ NC) YH).symm;have tlc:=(aq (e2 _ _ NC) ht0).symm;refine⟨vs,Z2 _ _ NC,by rw[vl,RI];show i<2 ^ 24;omega,_,?_,rfl,c,⟨_,rfl⟩,aW (e1.trans Z2) Q1,as++[a],by rw[DT,Rg];rfl,?_,λb hb=>?_,vs++[.ref t],ag,?_⟩
   ·omega
   ·refine Ej.mpr ⟨WQ,by simp,λb hb b' Oc e=>?_⟩;rw[E5.mp Oc]at e;rw[e]at hb;have:=e2 _ _ (has a hb).1;rw[YH]at this
    cases this
   ·rcases Ea.mp hb with hb|hb
    ·obtain⟨b1,b2,b3⟩:=has b hb;exact⟨by rw[ab b3];exact Z2 _ _ b1,b2,b3⟩
    ·rw[E5.mp hb];exact⟨by rw[ab Zj];exact ha,(e1.trans e2).free YH,Zj⟩
   ·have er:bi kf (nm.take<|i+1) (as++[a])=bi kf (nm.take i) as++[(kf nm[i],.ref a)]:=by unfold bi;rw[be ex,List.zip_append (by rw[E4];omega),DP];rfl
    rw[er];refine Paired.Mq (Paired.imp' (λv kv ⟨t',e',OA⟩=>⟨t',e',?_⟩) RK) ⟨t,rfl,by rw[ab tlc];exact ht⟩;have:=Z2 _ _ OA;rw[ab (λz=>by rw[z,Z2 _ _ NC]at this;cases this)];exact this
  ·exact ht nm[i] (EB c) x H2 _ (DR.mono (aJ (sF.trans e1) e2) _ _ dx) λa t H3 e3 a0 t0 a1 t1=>⟨a,t,rfl,e3,a0,t0,a1,t1⟩
 ·have ei:i=nm.length:=by omega
  subst ei;rw[Et]at RK;exact .inl ⟨hJ.stop H1 _ (sF.trans e1) (by rw[DH];exact DV _),hd lc H1 as vs e1 Q1 NC Rg WQ (λa ha=>let ⟨x,y,_⟩:=has a ha;⟨x,y⟩) RK⟩
theorem wg [DecidableEq α](kj:∀ a b,kf a=kf b->a=b)(nd:nm.Nodup)(hl:nm.length<=1000)(e:f' H H')(NC:H' lc=some (.lst vs))(al:as.length=nm.length)(an:as.Nodup)(has:∀ a∈as,H' a=some (.lst [])/\H a=none)(hp:Paired (λv (kv:Key×V)=>∃ t,v=.ref t/\H' t=some (.tup [kV kv.1,kv.2])) vs (bi kf nm as))(q:∀ d H2 (LA:α->Addr),f' H H2->H d=none->H2 d=some (.dK (nm.map λx=>(kf x,V.ref (LA x))))->(∀ x∈nm,H2 (LA x)=some (.lst [])/\H (LA x)=none/\cu (nm.map λx=>(kf x,V.ref (LA x))) (kf x)=some (.ref (LA x)))->(∀ x∈nm,∀ y∈nm,LA x=LA y->x=y)->Q (.ref d) H2):∃ p ķ,[V.ref lc]=[.ref p]/\uu H' p ķ/\ķ.length<=1000/\JJ H' (.dK (b8 [] ķ)) Q:=by
 have RI:(bi kf nm as).length<=1000:=by unfold bi;rw[DH,Fd];omega
 refine⟨lc,_,rfl,⟨vs,NC,hp⟩,RI,λd H2 e2 h2 hd=>?_⟩;rw[nN kj nd<|by omega]at hd;obtain⟨LA,SU,XY,la3⟩:=nM kj nm as nd an al.symm;have ek:bi kf nm as=nm.map λx=>_:=la3▸nO nm;rw[ek]at hd SU;exact q d H2 LA (e.trans e2) (e.free h2) hd (λx hx=>let ⟨a,b⟩:=SU x hx;let ⟨c,c'⟩:=has _ b;⟨e2 _ _ c,c',a⟩) XY
noncomputable def zD (a:Addr)(o:HO):Hp:=λb=>if b=a then some o else none
theorem fT (h:H a=some o):f' (zD a o) H:=λb u hb=>by
 unfold zD at hb;by_cases c:b=a
 ·rw[if_pos c]at hb;rw[c,h];exact hb
 ·rw[if_neg c]at hb;cases hb
theorem Ai {nm:List α}{kf:α->Key}{u:α->D}{ð:ι}(sF:f' F H1)(p1:Rd F dp (.dK ķ))(p2:ķ.map (·.1)=ð.map (·.1))(fz:Fz X H1 H2 dp o ķ)(hk:ð.map pK=nm.map u)(hl:nm.length<=1000)(ht:∀ x∈nm,∀ v H1 (Q:VK),DR H1 (u x) v->(∀ a t H2,f' H1 H2->H1 a=none->H1 t=none->H2 a=some (.lst [])->H2 t=some (.tup [kV (kf x),.ref a])->Q (.ref t) H2)->te (some v::js.map λj=>(σ[j]?).join) H1 Q)(hd:∀ lc H' (as:υ) vs,f' H1 H'->H' lc=some (.lst vs)->as.length=nm.length->as.Nodup->(∀ a∈as,H' a=some (.lst [])/\H1 a=none)->Paired (λv (kv:Key×V)=>∃ t,v=.ref t/\H' t=some (.tup [kV kv.1,kv.2])) vs (bi kf nm as)->Q (.ref lc) H'):gC 1 js (bU 0) wP te σ (λb H'=>SH X Q (.ref b) H') (Zs o dp) H2:=by
 obtain⟨f1,f2⟩:=fz;rcases f2 with⟨h1,f2,nf⟩|f2
 ·refine pb (fT f1) (hk▸BE (if_pos rfl) p2) hl ht λlc H' as vs e' h0 NC al an has hp=>.inl ⟨dp,o,ķ,nf,e' _ _ f1,?_⟩;have nd:∀ {b:Addr},H2 b=none->b≠dp:=λhb=>(aq f1 hb).symm;subst f2;exact hd lc _ as vs (zt h1 e') (by rw[ab<|nd h0];exact NC) al an (λa ha=>let ⟨x,y⟩:=has a ha;⟨by rw[ab<|nd y];exact x,by have:=nd y;rwa [ab this]at y⟩) (Paired.imp' (λv kv gR=>(by obtain⟨t,et,ht⟩:=gR;exact⟨t,et,by rw[ab (λz=>by rw[z,e' _ _ f1]at ht;cases ht)];exact ht⟩)) hp)
 ·subst f2;exact pb (fT f1) (hk▸BE (if_pos rfl) p2) hl ht λlc H' as vs e' h0 NC al an has hp=>.inr (hd lc H' as vs e' NC al an has hp)
theorem Vl (k:Nat)(s:f' F H)(e:f' H G)(h:Ij (grow F H G) l vs)(τ:St)(hσ:σ=vs.map some++τ)(hk:k<=τ.length):Ss F H (grow F H G) σ G (l.map .fz++List.replicate k .un):=by
 have hl:=h.length;subst hσ;refine⟨e,s,ak s,f'.refl _,by simp;omega,λi d q=>?_,λi d q=>?_,λi j c d a n q=>?_⟩
 ·by_cases c:i<l.length
  ·rw[Em<|by simpa using c,DN]at q
   cases z:l[i]? with
   | none=>rw[z]at q;cases q
   | some y=>
    rw[z]at q;cases q;obtain⟨v,a,b⟩:=h.at z;exact⟨v,by rw[Em<|by simp[hl,c],DN,a];rfl,b⟩
  ·rw[Es<|by simpa using c]at q
   cases (F5<|DO q)
 all_goals
  rcases Ea.mp (DO q) with z|z
  ·obtain⟨_,_,z⟩:=DI.mp z;cases z
  ·cases F5 z
theorem ZE (s:f' F H)(h:DR F d v):Sd F (some v::σ) H [some d]:=⟨s,by simp,λi e q=>by
 match i,q with
 | 0,q=>cases q;exact⟨v,rfl,h⟩
 | i+1,q=>simp at q⟩
theorem qAt (F0 H0:Hp)(h:PF X ss r):N6 X ss (tQ F0 H0 r):=h F0 H0
def l7 (S:NS)(ns:η):Prop:=ns=bF (bo S) S.names.length/\At (bo S)/\(∀ t∈S.HM,t.2.2.1∈S.names)/\S.HM.length<=900/\S.Ia.length<=900
noncomputable abbrev fu:Stmt:=aF (top 32) 17
theorem Lj:ae ["self","begins","number","one","other","delay","told"] Þ (a8 fu):=IM
theorem oA (F:Iy K "ordered" "Net.ordered" fu f fd)(O:Cl.Ok K c)(T:Ch mg)(HV:Dm P w K mg base 1 c.IU "ties" Þ (Pr (kC c)))(Kq:Df P w K mg base 1 "first_ready" ["begins","told"] (Pr JI)):HP P w K mg base Ik 2 f fd Þ (Pr (pE c l7)):=by
 have Ie:=O.W2;refine F.ok Lj (λvs H Q E gR=>(by obtain⟨_,_,_,_,hl,hR,_⟩:=gR;cases hR;exact hl.length)) (λHU A outer s H vs Q E hr h=>?_)
 ·obtain⟨G,_,_,sF,hl,@⟨S,ns,hN⟩,q⟩:=h;obtain⟨_,ac,Yy,htz,VG⟩:=id hN;obtain⟨rfl,_⟩:=hN;obtain⟨v,_,rfl,hv,rfl⟩:=hl;have ND:=Lj.nd;have bnm:(bo S).map (·.1)=S.names:=by unfold bo;rw[DL];exact List.map_id _
  have Vg:S.names.Nodup:=by rw[<- bnm];exact ac.nd
  have nl:S.names.length<=1000:=by unfold NS.names;rw[DH];omega
  have pk:(S.Ia.map λp=>((.inr p.1:Key),gI c p)).map pK=S.names.map .str:=by unfold NS.names;rw[DL,DL];rfl
  refine⟨_,(aj (pS 1 ND (fS (c8 rfl) rfl T.Ko boot_dict (a9 (PE.SH (eO rfl (cS 1 [] ["name"]) (ax<|PH Ie (Đ 0))
  (λ_ _ _ _ _=>pC 0)
  (λ_ _ _ _ _=>LG)
  (λ_ _ _ _ _=>eM<|a9 (pv 0) (a9 (gj D') D'))) λ_ _ _ h=>h) D')))
   (aj (bV E1 rfl (t6 K<|gO (Đ 0) HV hr.m) (cr K rfl<|af (pN 2 ND) (af (pN 3 ND)<|af (pN 4 ND) (af (pN 5 ND) aD)))
  (ar<|aE (Pz K Ek Ep Eo aO (pD (ao hr) (pv 1)<|pv 4)<|a9 (pv 3) D')))
   (qAt G H (qC (qO (pS 6 ND<|d7 HS) λ_ _ _ h=>h)
 (qC (qW E1 (dT lQ gr (dB b5 aG rfl T.IH boot_len<|da (Đ 6) HS)<|dB b5 aG rfl T.IH boot_len (da (Đ 1) HS))
  (q1<|qA (aE<|Pz K Ek Ep Eo aO (pv 6) (a9 (dF Kq hr.m rfl<|da (Đ 1) (da (Đ 6) HS)) D')) (λ_ _ _ h=>h)))
 (q1<|qR (Đ 6))))))),?_⟩
  refine⟨λx H1=>f' H H1/\DR (grow G H H1) (B3 c S) x,tP.go (ZE sF hv) ⟨rfl,rfl,rfl⟩ λx H1 e1 _ hx=>⟨e1,hx⟩,λx H1 h=>?_⟩;obtain⟨e1,dp,ķ,rfl,hd,hk,hds⟩:=h;have sF1:=aJ sF e1;refine⟨dp,rfl,.inr<|.inr ⟨ķ,hd.mono sF1,λo H2 fz=>?_⟩⟩;refine Ai sF1 hd hk fz pk nl (λx hx v H1 Q hv q=>⟨_,rfl,(by show 0<=sizeLine;decide),λa H2 e2 h2 ha=>⟨(by show 2<=sizeLine;decide),λt H3 e3 h3 ht=>q a t H3 (e2.trans e3) h2 (e2.free h3) (e3 _ _ ha) (by cases hv;exact ht)⟩⟩) λlc H' as vs e' NC al an has hp=>wg (λ_ _=>Sum.inr.inj) Vg nl (e1.trans e') NC al an (λa ha=>let ⟨x,y⟩:=has a ha;⟨x,e1.free y⟩) hp λd H3 LA e3 d0 WO QX inj=>?_;refine tP.go (ZE (sF.trans e3) hv) ⟨rfl,rfl,by decide,⟨by omega⟩⟩ λx H4 e4 _ hx=>?_;obtain⟨lt,xs,rfl,Kb,hxs⟩:=hx;have hp:=sj hxs;have Y9:=Paired.length hp;have le4:f' (grow G H3 H4) H4:=aJ (sF.trans e3) e4;have ZQ:∀ x∈S.names,grow G H3 H4 (LA x)=none:=λx hx=>by unfold grow;rw[if_neg (by rw[(QX x hx).1];exact nofun)];exact sF.free (QX x hx).2.1
  generalize grow G H3 H4=Γ at *
  refine⟨lt,rfl,⟨_,Il.of<|le4 _ _ Kb⟩,fV (λj σ Hj=>(∃ o2 o3 o4 o5,σ=[some v,some<|.ref d,o2,o3,o4,o5,none])/\f' H Hj/\f' Γ Hj/\Hj d=some (.dK<|S.names.map λx=>(Sum.inr x,V.ref<|LA x))/\∀ x∈S.names,Hj (LA x)=some (.lst<|(cV (S.HM.take j) x).map V.str)) ⟨⟨_,_,_,_,rfl⟩,e3.trans e4,le4,e4 _ _ WO,λx hx=>e4 _ _ (QX x hx).1⟩ (λj σ Hj _ h=>Il.of<|h.2.2.1 _ _ Kb) ?_ ?_⟩
  ·rintro j w σ Hj ev ⟨⟨o2,o3,o4,o5,rfl⟩,eH,eΓ,WM,bj⟩;obtain⟨t,et,b,rfl,hb⟩:=Paired.at hp ev;have hy:=Yy t<|DO et;refine⟨b,_,rfl,Kc.of<|eΓ _ _ hb,rfl,_,_,rfl,_,_,rfl,_,_,rfl,_,[],rfl,rfl,?_⟩;refine⟨_,rfl,_,rfl,d,.ref<|LA t.2.2.1,rfl,(by rw[<- (QX _ hy).2.2];exact LV.k (k:=Sum.inr t.2.2.1) WM),.inl ⟨rfl,_,Il.of<|bj _ hy⟩,_,rfl,LA t.2.2.1,_,_,rfl,rfl,bj _ hy,?_,⟨_,_,_,_,rfl⟩,aW eH (QX _ hy).2.1,aW eΓ<|ZQ _ hy,?_,λx hx=>?_⟩
   ·have h3:=pi (S.HM.take j) t.2.2.1;rw[E4]at h3;rw[DH];show (cV (S.HM.take j) t.2.2.1).length<2 ^ 24;omega
   ·rw[ab (λz=>by rw[z,bj _ hy]at WM;cases WM)];exact WM
   ·rw[be et,wA];by_cases cx:t.2.2.1=x
    ·subst cx;rw[if_pos rfl,ag,DP];rfl
    ·rw[if_neg cx,El,ab λz=>cx (inj _ hx _ hy z).symm];exact bj x hx
  ·rintro σ Hj ⟨⟨o2,o3,o4,o5,rfl⟩,eH,eΓ,WM,bj⟩;rw[Y9,Et]at bj;have ebs:((bo S).map λb=>((.inr b.1:Key),bI b.2))=S.names.map λx=>(.inr x,bI<|cV S.HM x):=by unfold bo;rw[DL];rfl
   have bsl:(bo S).length=S.names.length:=by unfold bo;rw[DH]
   refine⟨grow G H Hj,[.fz<|aI c S,.fz<|ug (bo S),.un,.un,.un,.un,.un],.rt<|bI (bF (bo S) S.names.length),Vl (l:=[aI c S,ug<|bo S]) 5 sF eH ⟨_,_,rfl,hv.mono<|ak sF,_,_,rfl,⟨d,_,rfl,.inl<|(aw d0).trans WM,?_,?_⟩,rfl⟩ [o2,o3,o4,o5,none] rfl<|DV 5,?_,λx H' e' _ h=>q x H' e' h⟩
   ·rw[ebs,DL,DL];rfl
   ·rw[ebs,DL,DL];exact kq λx hx=>⟨LA x,_,rfl,(aw (QX x hx).2.1).trans<|bj x hx,by exact kq λy _=>rfl⟩
   refine .nx ⟨⟨rfl,by simp,rfl⟩⟩ ?_;refine g6 (λk ε=>ε=[.fz<|aI c S,.fz<|ug (bo S),.un,.un,.un,.un,.ow<|bI (bF (bo S) k)]/\k<=S.names.length) (λk=>S.names.length - k) ⟨rfl,EE _⟩ λk ε gR=>?_;obtain⟨he,hk⟩:=gR;subst he;obtain⟨on,ol⟩:=nZ ac k (by omega);have l1:=M0.m (g:=D.str) (x:=bF (bo S) k);rw[ol]at l1;have l2:M0 [ug<|bo S] (.int S.names.length):=by have:=M0.k (ð:=(bo S).map λb=>((.inr b.1:Key),bI b.2));rwa [DH,bsl]at this
   have rd:=lt_int (ε:=[some<|aI c S,some<|ug (bo S),none,none,none,none,some<|bI (bF (bo S) k)]) (ra:=rF M0<|rA (rV 6) Of) (rb:=rF M0<|rA (rV 1) Of) (i:=k) (j:=S.names.length) ⟨⟨rfl,rfl⟩,l1⟩ ⟨⟨rfl,rfl⟩,l2⟩;by_cases g:k<S.names.length
   ·rw[DM<|by omega]at rd;obtain⟨x,ex,hx,hn⟩:=gc ac (ts:=bF (bo S) k) (by omega);have fr:=JI.mk (bs:=bo S) (ts:=bF (bo S) k) ac.nd λb hb=>by unfold bo at hb;obtain⟨y,_,rfl⟩:=DI.mp hb;exact Ei (pi _ _) (by omega)
    rw[ex]at fr;refine .inr ⟨rd,k+1,_,⟨rfl,by rw[DH,ol];omega,.a ⟨⟨rfl,rfl,rfl⟩,fr⟩ rfl⟩,⟨?_,g⟩,by omega⟩;show _=[_,_,_,_,_,_,Sl.ow<|bI (bF (bo S) k++[(bA (bo S)<|bF (bo S) k).getD ""])]
    rw[ex,show bI (_++[(some x).getD ""])=.lst (List.map D.str _++[.str x]) from congrArg D.lst DP];rfl
   ·have g:k=S.names.length:=by omega
    rw[DQ<|by omega]at rd;exact .inl ⟨rd,rfl,by rw[g]⟩
theorem Rb (s:f' F H):Sd F σ H []:=⟨s,EE _,λi d q=>by simp at q⟩
theorem Jh (S:Sd F σ H ε):Sd F (o::σ) H (none::ε):=⟨S.le,Nat.succ_le_succ S.len,λi d q=>by
 cases i with
 | zero=>cases q
 | succ i=>exact S.rd i d q⟩
theorem KI (h:DR F d v)(S:Sd F σ H ε):Sd F (some v::σ) H (some d::ε):=⟨S.le,Nat.succ_le_succ S.len,λi e q=>by
 cases i with
 | zero=>cases q;exact⟨v,rfl,h⟩
 | succ i=>exact S.rd i e q⟩
theorem bd (h:H a=none):grow F H (upd G a o)=upd (grow F H G) a o:=by
 funext b;by_cases c:b=a
 ·subst c;rw[aw h,ag,ag]
 ·unfold grow;rw[ab c,ab c]
theorem prG (s:f' F H)(e:f' H G)(hl:Ij (grow F H G) l vs)(hR:R l d)(q:∀ x G',f' G G'->DR (grow F H G') d x->Q x G'):Pr R vs G Q E0:=⟨_,l,d,aJ s e,hl,hR,λx G' e' h=>q x G' e'<|by rwa [au e e']at h⟩
theorem tPG (e:f' H G)(S:Sd (grow F H G) σ G ε)(h:r ε d)(q:∀ x G',f' G G'->DR (grow F H G') d x->Q x G'):tP r σ G Q:=tP.go S h λx G' e' _ k=>q x G' e' (by rwa [au e e']at k)
theorem zX (e:f' H G)(e':f' G G')(hl:G l=some o):f' (grow (bg l (grow F H G)) G G') (bg l (grow F H G')):=λb u hb=>by
 by_cases c:G b=none
 ·rw[aw c]at hb;rw[bN (aq hl c).symm,aw<|e.free c];exact hb
 ·rw[show grow _ G G' b=bg l _ b from if_neg c]at hb;exact ly (aQ e') b u hb
noncomputable def emp:Hp:=λ_=>none
theorem d6:f' emp H:=λ_ _ h=>nomatch h
section
variable {C CE f:Addr}
noncomputable abbrev qe (CE dx d l:Addr):HO:=.ins CE dx [("rows",.ref d),("probes",.ref l)]
inductive j6 (CE:Addr) (vs:π) (H:Hp) (Q:VK) (E:XK):Prop
 |mk (x dx d:Addr) (m:Nat):vs=[.ref x,.ref d,.int (m:Int)]->H x=some (.ins CE dx [])->m<=1000->(∀ l H1,f' (upd H x (.ins CE dx [("rows",.ref d)])) H1->DR (grow emp (upd H x (.ins CE dx [("rows",.ref d)])) H1) (tb (Mx.ones m)) (.ref l)->Q .non (upd H1 x (qe CE dx d l)))->j6 CE vs H Q E
noncomputable abbrev dW:Stmt:=aF (top 82) 0
theorem m9:ae Ą Ą (a8 dW):=IM
theorem vm (F:Iy K "__init__" "Ear.__init__" dW f fd)(T:Kj K mg CE)(JF:Df P w K mg base 2 "ones" č (Pr sd)):HP P w K mg base Ik 3 f fd Ą (j6 CE):=by
 refine F.k m9 λHU A _ s H vs Q E hr h=>?_
 ·obtain⟨x,dx,d,m,rfl,hx,hm,q⟩:=h;refine⟨_,(aj (gh (pv 0) (pv 1) rfl)
 (ar<|gh (pv 0) (b7 JF hr.m rfl<|a9 (pv 2) D') rfl)),?_⟩
  refine⟨_,rfl,_,rfl,x,CE,dx,_,rfl,hx,T.cl,T.nR,by decide,?_⟩;refine⟨_,rfl,emp,_,_,d6,So (d:=.int m) rfl,⟨hm⟩,λl H1 e1 hN=>?_⟩;obtain⟨a,xs,rfl,hN⟩:=hN;exact⟨_,rfl,x,CE,dx,_,rfl,e1 _ _ ag,T.cl,T.nB,(by show 1<1000;decide),q a H1 e1 ⟨a,xs,rfl,hN⟩⟩
inductive sw (C CE:Addr) (vs:π) (H:Hp) (Q:VK) (E:XK):Prop
 |mk (F:Hp) (a f d dx l:Addr) (p k:Int) (i:Nat) (B:Θ) (R:Mk.Md):f' F H->vs=[.ref a,.ref f,.int (i:Int),.int k]->F a=some (qe CE dx d l)->DR F (bz R) (.ref d)->DR F (tb B) (.ref l)->DR F (fD C p) (.ref f)->0<p->p<=1000000->k∈R.map (·.1)->i<B.length->(∀ r∈B,RY p r/\r.length<=1000)->B.length<=1000 ->
  (∀ l' H1,f' H H1->DR (grow F H H1) (tb (Mk.moved p B i (Mk.lk R k))) (.ref l')->Q .non (upd H1 a (qe CE dx d l')))->sw C CE vs H Q E
inductive MvI (F H:Hp) (a f ml:Addr) (i:Nat) (k:Int) (ow of:V) (ps:Θ) (j:Nat) (σ:St) (G:Hp):Prop
 |mk (o7 o8 o9:Ç) (ys:π):σ=[some (.ref a),some (.ref f),some (.int (i:Int)),some (.int k),some ow,some of,some (.ref ml),o7,o8,o9]->f' H G->G ml=some (.lst ys)->Ij (bg ml (grow F H G)) ((ps.take j).map rw) ys->MvI F H a f ml i k ow of ps j σ G
noncomputable abbrev cN:Stmt:=aF (top 82) 2
theorem Kf:ae ["self","field","way","number","own","often","moved","place","probe","less"] ã (a8 cN):=IM
theorem vk (F:Iy K "move_front" "Ear.move_front" cN f fd)(T:Kj K mg CE)(Ja:Dm P w K mg base 4 CE "shown" ã (Pr (pB C CE)))(HQ:Dm P w K mg base 1 C "fit" å (Pr (Nx C))):HP P w K mg base Ik 5 f fd ã (sw C CE):=by
 refine F.k Kf λHU A outer s H vs Q E hr h=>?_
 ·obtain⟨F,a,f,d,dx,l,p,k,i,B,R,sF,rfl,ha,hR,hB,hf,p0,p1,hk,hi,hF,hz,q⟩:=h;have ND:=Kf.nd;obtain⟨l',xs,el,hl,hp⟩:=id hB
  cases el;have hE:DR F (xS CE R B) (.ref a):=⟨a,dx,_,rfl,ha,rfl,_,_,rfl,hR,_,_,rfl,hB,rfl⟩
  have Y9:=hp.length;rw[DH]at Y9;obtain⟨vo,evo,WA⟩:=hp.at (i:=i) (d:=rw (B.getD i [])) (by rw[DN,DF hi,DG,DF hi];rfl)
  have sh:∀ {j:Nat},j<B.length->pB C CE [xS CE R B,fD C p,.int j,.int k] (.int<|Mx.Ig p (B.getD j []) (Mk.lk R k)):=λhj=>⟨p0,p1,hk,hj,(hF _<|eU hj).1,(hF _<|eU hj).2⟩
  have rs:∀ x y:Ξ,0<=Mx.Ig p x y/\Mx.Ig p x y<p:=λx y=>by rw[Mx.Iv];exact⟨EM _<|by omega,EC _ p0⟩
  refine⟨_,(aj (pS 4 ND<|pI (oP K) (vY K (pv 0) rfl) (pv 2))
   (aj (pS 5 ND<|Nq (Đ 0) Ja hr.m (da (Đ 1)<|da (Đ 2) (da (Đ 3) HS)))
   (aj (pS 6 ND<|gj D')
   (aj (bV E1 rfl (t7 K rfl T.Kg<|a9 (vY K (pv 0) rfl) D') (cr K (n:=2) rfl<|af (pN 7 ND) (af (pN 8 ND) aD))
    (aj (pS 9 ND<|Th (dT bf cF (Đ 7)<|Đ 2) (dC aa) (Nq (Đ 0) Ja hr.m<|da (Đ 1) (da (Đ 7)<|da (Đ 3) HS)))
    (ar (nV (pT bf (pv 9) aa)
    (ar<|aE (Pz K Ek Ep Eo aO (pv 6)<|a9 (pv 8) D'))
    (ar (aE (Pz K Ek Ep Eo aO (pv 6) (a9 (dL 2 rfl (cS 2 [1,5,9] ["mine","theirs","field","often","less"]) (iZ rfl T.Kw<|da (Đ 8) (da (Đ 4) HS))
     (λ_ _ _ _ _=>cr K (n:=2) rfl<|af (pC 0) (af (pC 1) aD))
     (λ_ _ _ _ _=>Lp)
     (λ_ _ _ _ _=>Nq (Đ 2) HQ hr.m<|da (dO tj gr (dO cC NB (Đ 3)<|Đ 0)<|dO cC NB (Đ 4) (Đ 1)) HS)) D'))))))))
   (ar<|gh (pv 0) (pv 6) rfl))))),?_⟩
  refine⟨_,rfl,a,CE,dx,_,_,rfl,sF _ _ ha,T.cl,T.nB,rfl,_,rfl,l,xs,_,_,rfl,rfl,Il.of<|sF _ _ hl,kz evo,?_⟩;refine tP.go (ε:=[some<|xS CE R B,some<|fD C p,some<|.int i,some<|.int k]) (KI hE<|KI hf (KI rfl<|KI rfl (Rb sF))) ⟨rfl,by decide,⟨rfl,rfl,rfl,rfl⟩,sh hi⟩ λx H1 e1 _ hx=>?_
  cases hx;refine⟨(by show 0<=sizeLine;decide),λml H2 e2 h2 Ys=>?_⟩;have Oj:=e1.trans e2;have RM:H ml=none:=e1.free h2;have gF:∀ {G:Hp},f' F (bg ml<|grow F H G):=λ{G} b o hb=>by rw[bN (λz=>by rw[z]at hb;rw[sF _ _ hb]at RM;cases RM)];exact ak sF _ _ hb
  refine⟨_,rfl,a,CE,dx,_,_,rfl,Oj _ _<|sF _ _ ha,T.cl,T.nB,rfl,l,xs,rfl,Oj _ _<|sF _ _ hl,vV (K:=K) (xs:=xs) (MvI F H a f ml i k vo (.int<|Mx.Ig p (B.getD i []) (Mk.lk R k))<|Mk.moved p B i (Mk.lk R k)) ⟨none,none,none,[],rfl,Oj,Ys,rfl⟩ (λj σ G _ gR=>(by obtain⟨_,_,_,_,_,eG,_,_⟩:=gR;exact Il.of<|eG _ _ (sF _ _ hl))) ?_ ?_⟩
  ·rintro j v Tp σ G ev ⟨o7,o8,o9,ys,rfl,eG,Ue,Uh⟩ hTp;have hj:j<B.length:=by have:=(DJ.mp ev).1;omega
   obtain⟨v',ev',hv⟩:=hp.at (i:=j) (d:=rw (B.getD j [])) (by rw[DN,DF hj,DG,DF hj];rfl)
   rw[ev]at ev'
   cases ev';have eT:f' G (upd G Tp<|.tup [.int j,v]):=aV (f'.refl _) hTp;generalize upd G Tp (.tup [.int j,v])=G1 at eT;have e1G:=eG.trans eT;have yl:=Uh.length;rw[DH,E4]at yl;have tk:(Mk.moved p B i<|Mk.lk R k).take (j+1)=(Mk.moved p B i<|Mk.lk R k).take j++[Mk.KL p B i (Mk.lk R k) j]:=by refine be ?_;unfold Mk.moved;rw[DN,Fh hj];rfl
   have IX:ys.length<2 ^ 24:=by omega
   have put:∀ (G2:Hp)(u:V)(o9':Ç),f' G1 G2->DR (bg ml<|grow F H G2) (rw (Mk.KL p B i (Mk.lk R k) j)) u->MvI F H a f ml i k vo (.int<|Mx.Ig p (B.getD i []) (Mk.lk R k)) (Mk.moved p B i<|Mk.lk R k) (j+1) [some<|.ref a,some<|.ref f,some<|.int (i:Int),some<|.int k,some vo,some<|.int (Mx.Ig p (B.getD i [])<|Mk.lk R k),some<|.ref ml,some<|.int (j:Int),some v,o9'] (upd G2 ml<|.lst (ys++[u])):=λG2 u o9' e hu=>by refine⟨_,_,_,_,rfl,aW (e1G.trans e) RM,ag,?_⟩;rw[tk,DP,bd RM,d3];exact (Uh.mono<|ly (aQ<|eT.trans e)).app (.one hu)
   have S1:Sd F [some<|.ref a,some<|.ref f,some<|.int (i:Int),some<|.int k,some vo,some<|.int (Mx.Ig p (B.getD i [])<|Mk.lk R k),some<|.ref ml,some<|.int (j:Int),some v,o9] G1 [some<|xS CE R B,some<|fD C p,some<|.int i,some<|.int k,none,none,none,some<|.int j]:=KI hE<|KI hf (KI rfl<|KI rfl (Jh<|Jh (Jh<|KI rfl (Rb<|sF.trans e1G))));have md:Mk.KL p B i (Mk.lk R k) j=if j=i\/Mx.Ig p (B.getD j []) (Mk.lk R k)=0 then B.getD j [] else List.zipWith (λx y=>(Mx.Ig p (B.getD i []) (Mk.lk R k) * x - Mx.Ig p (B.getD j []) (Mk.lk R k) * y) % p) (B.getD j []) (B.getD i []):=rfl
   have r1:=eq_int (ε:=[some<|xS CE R B,some<|fD C p,some<|.int i,some<|.int k,none,none,none,some<|.int j]) (ra:=rV 7) (rb:=rV 2) rfl rfl;by_cases cj:j=i
   ·rw[DM<|by omega]at r1;refine tP.go S1 (.t r1 rfl) λx G2 N5 _ hx=>?_
    cases hx;have Pu:=N5 _ _<|eT _ _ Ue;refine⟨_,λσ' H' h=>h,_,rfl,rfl,_,rfl,BF ⟨_,rfl,.inl ⟨rfl,_,Il.of Pu⟩,_,rfl,ml,_,_,rfl,rfl,Pu,IX,put G2 v _ N5 ?_⟩⟩;rw[md,if_pos<|.inl cj];exact hv.mono gF
   ·rw[DQ<|by omega]at r1;refine tP.go S1 (.f r1 ⟨rfl,by decide,⟨rfl,rfl,rfl,rfl⟩,sh hj⟩) λx G2 N5 _ hx=>?_
    cases hx;have Pu:=N5 _ _<|eT _ _ Ue;have e2G:=e1G.trans N5;refine⟨_,λσ' H' h=>h,_,rfl,rfl,_,rfl,mH (λz=>?_) (λz=>?_)⟩
    ·have z:Mx.Ig p (B.getD j []) (Mk.lk R k)=0:=by have:=DZ z;injection this
     refine⟨_,rfl,.inl ⟨rfl,_,Il.of Pu⟩,_,rfl,ml,_,_,rfl,rfl,Pu,IX,put G2 v _ N5 ?_⟩;rw[md,if_pos<|.inr z];exact hv.mono gF
    ·have z:¬ Mx.Ig p (B.getD j []) (Mk.lk R k)=0:=λy=>z<|DM (by rw[y]);have jl:(B.getD j []).length<=1000:=(hF _<|eU hj).2;have b1:=rs (B.getD i [])<|Mk.lk R k;have b2:=rs (B.getD j [])<|Mk.lk R k;refine⟨_,rfl,.inl ⟨rfl,_,Il.of Pu⟩,?_⟩;refine tPG (F:=bg ml<|grow F H G2) (H:=G2) (f'.refl _) (ε:=[none,some<|fD C p,none,none,some<|rw (B.getD i []),some<|.int (Mx.Ig p (B.getD i [])<|Mk.lk R k),none,none,some<|rw (B.getD j []),some<|.int (Mx.Ig p (B.getD j [])<|Mk.lk R k)]) ?_ (dj (xs:=(B.getD j []).zip<|B.getD i []) (d:=rw (Mk.KL p B i (Mk.lk R k) j)) ⟨_,_,⟨rfl,rfl,rfl⟩,iH _ _⟩ (by rw[Fd];omega) (λz hz=>⟨_,⟨rfl,rfl⟩,rfl,by decide,⟨⟨⟨rfl,rfl,⟨.inl ⟨by omega,by omega⟩⟩⟩,⟨rfl,rfl,⟨.inl ⟨by omega,by omega⟩⟩⟩,⟨trivial⟩⟩,rfl⟩,⟨by omega⟩⟩) ?_) λx G3 e3 hx=>?_
     ·have gg:∀ {d:D}{v:V},DR F d v->DR (grow (bg ml<|grow F H G2) G2 G2) d v:=λh=>(h.mono gF).mono<|ak (IG.trans<|aJ sF e2G);exact Jh (KI (gg hf)<|Jh (Jh<|KI (gg WA) (KI rfl<|Jh (Jh<|KI (gg hv) (KI rfl<|Rb (aJ (IG.trans<|aJ sF e2G)<|f'.refl _))))))
     ·rw[md,if_neg λy=>y.elim cj z,<- Fb];exact Fl.rt.inj (P9 _ _)
     ·refine⟨ml,_,_,rfl,rfl,e3 _ _ Pu,IX,put G3 x _ (N5.trans e3)<|hx.mono (zX e2G e3 Pu)⟩
  ·rintro σ G ⟨o7,o8,o9,ys,rfl,eG,Ue,Uh⟩;rw[Ff (by unfold Mk.moved;rw[DH,Er];omega)]at Uh;exact⟨_,rfl,_,rfl,a,CE,dx,_,rfl,eG _ _<|sF _ _ ha,T.cl,T.nB,(by show 2<1000;decide),q ml G eG ⟨ml,ys,rfl,by rw[aw RM];exact Ue,Uh.mono IG⟩⟩
end
theorem oZ {g:α->D}{l:List α}{i:Nat}(h:Ij F (l.map g) vs)(e:vs[i]?=some v):∃ y,l[i]?=some y/\DR F (g y) v:=by obtain⟨d,h1,h2⟩:=h.at' e;rw[DN]at h1;obtain⟨y,h3,rfl⟩:=EG.mp h1;exact⟨y,h3,h2⟩
theorem yQ {f:α->Int}:∀ {l:List α},(l.map f).Nodup->∀ r∈l,l.find? (λx=>decide (f x=f r))=some r
 | [],_,_,h=>(EJ h).elim
 | x::ws,nd,r,h=>by
  rw[DX,Ex]at nd;rcases E3.mp h with rfl|h
  ·rw[EO,DM rfl]
  ·have ne:¬ f x=f r:=λz=>nd.1<|z▸DS h;rw[EO,DQ ne];exact yQ nd.2 r h
noncomputable def jv (as:υ)(G:Hp):Hp:=λb=>if b∈as then none else G b
theorem rj (e:f' G G'):f' (jv as G) (jv as G'):=λb o h=>by
 unfold jv at h ⊢;split at h
 ·cases h
 ·rename_i c;rw[if_neg c];exact e _ _ h
theorem vR (h:l∈as)(o:HO):jv as (upd G l o)=jv as G:=by
 funext b;unfold jv;by_cases c:b∈as
 ·rw[if_pos c,if_pos c]
 ·rw[if_neg c,if_neg c,ab<|show b≠l from λz=>c<|z▸h]
theorem iL:f' (jv as G) G:=λb o h=>by
 unfold jv at h;split at h
 ·cases h
 ·exact h
theorem u0 (h:¬ b∈as):jv as G b=G b:=if_neg h
theorem lA:f' (grow emp H G) G:=λb o h=>by
 unfold grow at h;by_cases c:H b=none
 ·rwa [if_pos c]at h
 ·rw[if_neg c]at h;cases h
def S8 (J9:υ)(H:Hp)(v:V)(a:Mk.Ask):Prop:=∃ b ea,v=.ref b/\J9[a.1]?=some ea/\H b=some (.tup [.ref ea,.int (a.2.1:Nat),.int a.2.2])
theorem S8.mono (zs:υ)(e:f' H H')(h:S8 J9 H v a):S8 (J9++zs) H' v a:=by obtain⟨b,ea,h1,h2,h3⟩:=h;exact⟨b,ea,h1,by rw[Em (DJ.mp h2).1];exact h2,e _ _ h3⟩
def R8 (CE:Addr)(IW:υ)(m:Nat)(H:Hp)(ea:Addr)(Ih:Mk.IB):Prop:=∃ d dx l,IW[Ih.1]?=some d/\H ea=some (qe CE dx d l)/\DR H (tb (Mx.ones m)) (.ref l)
theorem R8.mono {CE:Addr}(e:f' H H')(h:R8 CE IW m H ea Ih):R8 CE IW m H' ea Ih:=let ⟨d,dx,l,a,b,c⟩:=h;⟨d,dx,l,a,e _ _ b,c.mono e⟩
abbrev _root_.Ú:=Int->Addr
noncomputable abbrev Vd (ks:Ξ)(LA:Ú)(H G:Hp):Hp:=jv (ks.map LA) (grow emp H G)
theorem xu (h:¬ b∈ks.map LA)(h0:H b=none):Vd ks LA H G b=G b:=(u0 h).trans (aw h0)
inductive Pb (CE:Addr) (H G0:Hp) (ks:Ξ) (LA:Ú) (IW:υ) (m:Nat) (es:List Mk.IB) (L:List (Int×Mk.Ask)) (J9:υ) (G:Hp):Prop
 |mk:f' G0 (jv (ks.map LA) G)->(∀ k∈ks,H (LA k)=none/\∃ xs,G (LA k)=some (.lst xs)/\Paired (S8 J9 (Vd ks LA H G)) xs (Mk.pick L k))->Paired (R8 CE IW m (Vd ks LA H G)) J9 es->J9.Nodup->Pb CE H G0 ks LA IW m es L J9 G
section
variable {CE:Addr}
theorem Pb.mono (e:f' G G')(h:Pb CE H G0 ks LA IW m es L J9 G):Pb CE H G0 ks LA IW m es L J9 G':=by obtain⟨h1,h2,h3,h4⟩:=h;have e':=rj (as:=ks.map LA)<|aQ (F0:=emp) (H0:=H) e;refine⟨h1.trans<|rj e,λk hk=>?_,Paired.JD h3 λ_ _ z=>z.mono e',h4⟩;obtain⟨g0,xs,g1,g2⟩:=h2 k hk;exact⟨g0,xs,e _ _ g1,Paired.JD g2 λ_ _ z=>by have:=z.mono [] e';rwa [El]at this⟩
theorem Pb.out (h:Pb CE H G0 ks LA IW m es L J9 G)(hb:G b=none):¬ b∈ks.map LA:=λz=>by
 obtain⟨_,h2,_,_⟩:=h;obtain⟨k,hk,rfl⟩:=DI.mp z;obtain⟨_,xs,g1,_⟩:=h2 k hk;rw[hb]at g1
 cases g1
theorem Pb.app (inj:∀ x∈ks,∀ y∈ks,LA x=LA y->x=y)(h:Pb CE H G0 ks LA IW m es L J9 G)(hk:k∈ks)(hx:G (LA k)=some (.lst xs))(he:J9[a.1]?=some ea)(hb0:H b=none)(hb:G b=some (.tup [.ref ea,.int (a.2.1:Nat),.int a.2.2])):
  Pb CE H G0 ks LA IW m es (L++[(k,a)]) J9 (upd G (LA k) (.lst (xs++[.ref b]))):=by
 obtain⟨h1,h2,h3,h4⟩:=h;have km:=DS (f:=LA) hk;have hu:Vd ks LA H (upd G (LA k)<|.lst (xs++[.ref b]))=Vd ks LA H G:=by unfold Vd;rw[bd (h2 k hk).1,vR km]
 have nb:¬ b∈ks.map LA:=λz=>by
  obtain⟨k',LZ,rfl⟩:=DI.mp z;obtain⟨_,ys,g1,_⟩:=h2 k' LZ;rw[hb]at g1
  cases g1
 refine⟨by rw[vR km];exact h1,λk' LZ=>?_,by rw[hu];exact h3,h4⟩;rw[hu];obtain⟨g0,ys,g1,g2⟩:=h2 k' LZ;refine⟨g0,?_⟩;by_cases c:k=k'
 ·subst c;rw[hx]at g1
  cases g1;rw[Mk.QF];exact⟨_,ag,Paired.Mq g2 ⟨b,ea,rfl,he,(xu nb hb0).trans hb⟩⟩
 ·rw[Mk.PU _ c];exact⟨ys,by rw[ab λz=>c (inj _ LZ _ hk z).symm];exact g1,g2⟩
theorem Pb.Ih (h:Pb CE H G0 ks LA IW m es L J9 G)(hx:G x=none)(e:f' G G')(hE:R8 CE IW m (Vd ks LA H G') x (c,ways)):Pb CE H G0 ks LA IW m (es++[(c,ways)]) L (J9++[x]) G':=by
 obtain⟨h1,h2,h3,h4⟩:=h.mono e;obtain⟨_,_,g3,_⟩:=h;refine⟨h1,λk hk=>?_,Paired.Mq h3 hE,?_⟩
 ·obtain⟨g0,xs,q1,q2⟩:=h2 k hk;exact⟨g0,xs,q1,Paired.JD q2 λ_ _ z=>z.mono [x]<|f'.refl _⟩
 ·refine Ej.mpr ⟨h4,by simp,λy hy z hz ez=>?_⟩;rw[E5.mp hz]at ez;subst ez;obtain⟨i,hi,ei⟩:=EA.mp hy;obtain⟨Ih,_,d',dx,l,_,q,_⟩:=Paired.at g3 (DF hi);rw[ei]at q;rw[lA _ _<|iL _ _ q]at hx
  cases hx
end
inductive As1 (CE:Addr) (H G0:Hp) (ks:Ξ) (LA:Ú) (IW:υ) (m:Nat) (v:V) (fa rb ls d:Addr) (found:List Δ) (i:Nat) (σ:St) (G:Hp):Prop
 |mk (o6 o7 o8 o9 ME LI LH K':Ç) (J9:υ):σ=[some v,some (.int (m:Int)),some (.ref fa),some (.ref rb),some (.ref ls),some (.ref d),o6,o7,o8,o9,ME,LI,LH,K']->Pb CE H G0 ks LA IW m (Mk.HX (found.take i)) (Mk.JS (Mk.HX (found.take i))) J9 G->As1 CE H G0 ks LA IW m v fa rb ls d found i σ G
inductive As2 (CE:Addr) (H G0:Hp) (ks:Ξ) (LA:Ú) (IW:υ) (m:Nat) (v:V) (fa rb ls d ba rd:Addr) (e0:List Mk.IB) (i:Nat) (bl:Δ) (j:Nat) (σ:St) (G:Hp):Prop
 |mk (o8 o9 ME LI LH K':Ç) (J9:υ):σ=[some v,some (.int (m:Int)),some (.ref fa),some (.ref rb),some (.ref ls),some (.ref d),some (.ref ba),some (.ref rd),o8,o9,ME,LI,LH,K']->Pb CE H G0 ks LA IW m (e0++(bl.take j).map λways=>(i,ways)) (Mk.JS (e0++(bl.take j).map λways=>(i,ways))) J9 G->As2 CE H G0 ks LA IW m v fa rb ls d ba rd e0 i bl j σ G
inductive As3 (CE:Addr) (H G0:Hp) (ks:Ξ) (LA:Ú) (IW:υ) (m:Nat) (v:V) (fa rb ls d ba rd wa ea:Addr) (e1:List Mk.IB) (L:List (Int×Mk.Ask)) (n:Nat) (ways:Θ) (J9:υ) (w:Nat) (σ:St) (G:Hp):Prop
 |mk (ME LI LH K':Ç):σ=[some v,some (.int (m:Int)),some (.ref fa),some (.ref rb),some (.ref ls),some (.ref d),some (.ref ba),some (.ref rd),some (.ref wa),some (.ref ea),ME,LI,LH,K']->Pb CE H G0 ks LA IW m e1 (L++Mk.JR n (ways.take w)) J9 G->As3 CE H G0 ks LA IW m v fa rb ls d ba rd wa ea e1 L n ways J9 w σ G
inductive As4 (CE:Addr) (H G0:Hp) (ks:Ξ) (LA:Ú) (IW:υ) (m:Nat) (v:V) (fa rb ls d ba rd wa ea wy lz:Addr) (e1:List Mk.IB) (L:List (Int×Mk.Ask)) (n w:Nat) (way:Ξ) (J9:υ) (k:Nat) (σ:St) (G:Hp):Prop
 |mk (LH K':Ç):σ=[some v,some (.int (m:Int)),some (.ref fa),some (.ref rb),some (.ref ls),some (.ref d),some (.ref ba),some (.ref rd),some (.ref wa),some (.ref ea),some (.int (w:Int)),some (.ref wy),LH,K']->G lz=some (.lst ([V.int (Mk.st w)]++way.map V.int))->¬ lz∈ks.map LA->Pb CE H G0 ks LA IW m e1 (L++(Mk.LR n w way).take k) J9 G->As4 CE H G0 ks LA IW m v fa rb ls d ba rd wa ea wy lz e1 L n w way J9 k σ G
section
variable {c:Cl}{CE:Addr}
inductive Cn (H:Hp) (ad:Addr) (ks:Ξ) (ê:List Mk.IB) (J9:υ):Prop
 |mk (ķ:ξ) (LA:Ú):H ad=some (.dK ķ)->(∀ k∈ks,cu ķ (Sum.inl k)=some (.ref (LA k))/\∃ xs,H (LA k)=some (.lst xs)/\Paired (S8 J9 H) xs (Mk.ID ê k))->Cn H ad ks ê J9
inductive sx (c:Cl) (CE:Addr) (vs:π) (H:Hp) (Q:VK) (E:XK):Prop
 |mk (F:Hp) (v x:V) (rb:Addr) (S:NS) (m:Nat) (found:List Δ) (IW:υ):f' F H->vs=[v,.int (m:Int),x,.ref rb]->DR F (aI c S) v->S.HM.length<=1000->(S.HM.map (·.1)).Nodup->DR F (Rr found) x->H rb=some (.lst (IW.map V.ref))->IW.length=found.length->found.length<=1000->m<=1000->(Mk.JS (Mk.HX found)).length<=1000000 ->
  (∀ bl∈found,bl.length<=1000/\∀ ways∈bl,ways.length<=m/\∀ way∈ways,way.length<=1000/\∀ k∈way,k∈S.HM.map (·.1)) ->
  (∀ ad H' J9,f' H H'->Cn (grow emp H H') ad (S.HM.map (·.1)) (Mk.HX found) J9->Paired (R8 CE IW m (grow emp H H')) J9 (Mk.HX found)->J9.Nodup->Q (.ref ad) H')->sx c CE vs H Q E
noncomputable abbrev fm:Stmt:=top 85
theorem Li:ae ["net","many","found","rows_by_choice","starts","told","by_listener","rows","ear_ways","ear","place","way","number","ahead"] ô (a8 fm):=IM
theorem oz (F:Iy K "asks_by_tie" "asks_by_tie" fm f fd)(T:Kj K mg CE)(TD:mg "dict"=none)(IK:Df P w K mg base 1 "message_ties" č (Pr cX))(HV:Dm P w K mg base 1 c.IU "ties" Þ (Pr (kC c)))(S6:Dk P w K mg base 3 "Ear" CE Ą (j6 CE)):HP P w K mg base Ik 5 f fd ô (sx c CE):=by
 refine F.k Li λHU A outer s H vs Q E hr h=>?_
 ·obtain⟨F,v,x,rb,S,m,found,IW,sF,rfl,hv,tz,Ro,⟨fa,fs,rfl,WI,hfp⟩,Yi,rl,fz,hm,hB,bnd,q⟩:=h;have ND:=Li.nd;have WI:=sF _ _ WI;refine⟨_,(aj (pS 4 ND<|b7 IK hr.m rfl (a9 (pv 1) D'))
   (aj (pS 5 ND (fS (c8 rfl) rfl TD boot_dict (a9 (eO rfl (cS 1 [] ["tie"]) (t6 K<|gO (Đ 0) HV hr.m)
  (λ_ _ _ _ _=>pC 0)
  (λ_ _ _ _ _=>LG)
  (λ_ _ _ _ _=>eM<|a9 (pI (VA K) (pv 0) aa) (a9 (gj D') D'))) D')))
   (aj (bV E1 rfl (V1 K rfl T.Kw<|a9 (pv 2) (a9 (pv 3) D')) (cr K (n:=2) rfl<|af (pN 6 ND) (af (pN 7 ND) aD))
  (ar (bV E1 rfl (t6 K<|pv 6) (pN 8 ND)
  (aj (pS 9 ND<|ir S6 hr.m rfl (a9 (pv 7)<|a9 (pv 1) D'))
 (ar (bV E1 rfl (t7 K rfl T.Kg<|a9 (pv 8) D') (cr K (n:=2) rfl<|af (pN 10 ND) (af (pN 11 ND) aD))
  (ar (bV E1 rfl (V1 K rfl T.Kw<|a9 (pv 11) (a9 (bM yB (gj<|a9 (pI (oP K) (pv 4)<|pv 10) D')<|pv 11) D')) (cr K (n:=2) rfl<|af (pN 12 ND) (af (pN 13 ND) aD))
  (ar<|aE (Pz K Ek Ep Eo aO (pD (ao hr) (pv 5)<|pv 12)<|a9 (eM<|a9 (pv 9) (a9 (pv 10)<|a9 (pv 13) D')) D'))))))))))
   (ar<|bJ (pv 5))))),?_⟩
  refine⟨_,rfl,emp,_,_,d6,So (d:=.int m) rfl,⟨hm⟩,λls H1 e1 Uk=>?_⟩;obtain⟨ls,us,rfl,Uk,SX⟩:=Uk;rw[ju SX]at Uk;have Uk:=lA _ _ Uk;refine tP.go (F:=F) (ε:=[some<|aI c S]) (ZE (sF.trans e1) hv) ⟨rfl,rfl,by decide,⟨tz⟩⟩ λx H2 e2 _ hx=>?_;obtain⟨tl,ts,rfl,Yc,Sb⟩:=hx;have le2:f' (grow F H1 H2) H2:=aJ (sF.trans e1) e2;have ut:∀ t∈S.HM,bO ((S.HM.find? λt'=>decide (t'.1=t.1)).getD (0,"","",0))=bO t:=λt ht=>by rw[yQ Ro t ht];rfl
  have eu:(S.HM.map (·.1)).map (λk=>bO<|(S.HM.find? λt=>decide (t.1=k)).getD (0,"","",0))=S.HM.map bO:=by rw[DL];exact E9 ut
  rw[<- eu]at Sb;refine⟨tl,rfl,⟨_,Il.of<|le2 _ _ Yc⟩,pb (kf:=(Sum.inl:Int->Key)) le2 (BD (.inl Yc) Sb) (by rw[DH];exact tz) (λk hk v H3 Q hv q=>?_) λlc H3 as vs e3 h0 NC al an has hp=>wg (λ_ _=>Sum.inl.inj) Ro (by rw[DH];exact tz) e3 NC al an has hp λd H4 LA e4 d0 hd QX inj=>?_⟩
  ·obtain⟨t,ht,rfl⟩:=DI.mp hk;rw[ut t ht]at hv;obtain⟨tp,vs,rfl,Sb,_,_,rfl,rfl,_,_,rfl,rfl,_,_,rfl,rfl,_,_,rfl,rfl,rfl⟩:=hv;exact⟨_,rfl,tp,_,0,_,rfl,rfl,Kc.of Sb,rfl,(by show 0<=sizeLine;decide),λa H2 e2 h2 ha=>⟨(by show 2<=sizeLine;decide),λt' H3 e3 h3 ht=>q a t' H3 (e2.trans e3) h2 (e2.free h3) (e3 _ _ ha) ht⟩⟩
  generalize Yu:(S.HM.map (·.1)).map (λx=>((Sum.inl x:Key),V.ref<|LA x))=ķ at hd QX;generalize VN:S.HM.map (·.1)=ks at *
  have Oj:=e1.trans e2;have Z6:=Oj.trans e4;have ZQ:∀ b∈ks.map LA,H2 b=none/\H4 b=some (.lst []):=λb hb=>by obtain⟨k,hk,rfl⟩:=DI.mp hb;obtain⟨g1,g2,_⟩:=QX k hk;exact⟨g2,g1⟩
  have hG0:∀ {b o},H2 b=some o->jv (ks.map LA) H4 b=some o:=λ{b o} hb=>by rw[u0 (λz=>by rw[(ZQ b z).1]at hb;cases hb)];exact e4 _ _ hb
  have YB:jv (ks.map LA) H4 d=some (.dK ķ):=by rw[u0 (λz=>by rw[(ZQ d z).2]at hd;cases hd)];exact hd
  have st:Pb CE H (jv (ks.map LA) H4) ks LA IW m [] [] [] H4:=⟨f'.refl _,λk hk=>⟨Oj.free (QX k hk).2.1,[],(QX k hk).1,.nil⟩,.nil,Ft⟩
  generalize jv (ks.map LA) H4=G0 at st hG0 YB;have toG:∀ {es L J9 G},Pb CE H G0 ks LA IW m es L J9 G->f' H2 G:=λ{es L J9 G} gR b o hb=>by obtain⟨g,_,_,_⟩:=gR;exact iL _ _ (g _ _<|hG0 hb)
  have fl:=hfp.length;rw[DH]at fl;refine⟨_,rfl,_,rfl,fa,rb,rfl,⟨_,Il.of<|Z6 _ _ WI⟩,⟨_,Il.of<|Z6 _ _ Yi⟩,u6 (K:=K) (xs:=fs) (ys:=IW.map V.ref) (As1 CE H G0 ks LA IW m v fa rb ls d found)
   ⟨none,none,none,none,none,none,none,none,[],rfl,st⟩ (λi σ G _ gR=>(by obtain⟨_,_,_,_,_,_,_,_,_,_,I⟩:=gR;exact⟨Il.of<|toG I _ _ (Oj _ _ WI),Il.of<|toG I _ _ (Oj _ _ Yi)⟩)) ?_ ?_⟩
  ·rintro i x y Tz σ G ex ey ⟨o6,o7,o8,o9,ME,LI,LH,K',J9,rfl,I⟩ hTz;obtain⟨bl,ebl,ba,bs,rfl,hba,hbp⟩:=oZ hfp ex;have hba:=sF _ _ hba;rw[DN]at ey;obtain⟨rd,WS,rfl⟩:=EG.mp ey;obtain⟨blz,bw⟩:=bnd bl<|DO ebl;have eT:f' G (upd G Tz<|.tup [.ref ba,.ref rd]):=aV (f'.refl _) hTz;have RO:(upd G Tz<|.tup [.ref ba,.ref rd]) Tz=some (.tup [.ref ba,.ref rd]):=ag;generalize upd G Tz (.tup [.ref ba,.ref rd])=G1 at eT RO;have I1:=I.mono eT;have bl2:=hbp.length;rw[DH]at bl2;refine⟨Tz,_,rfl,Kc.of RO,rfl,_,_,rfl,_,[],rfl,rfl,?_⟩;refine⟨_,rfl,ba,rfl,⟨_,Il.of<|toG I1 _ _ (Oj _ _ hba)⟩,fV (K:=K) (xs:=bs) (As2 CE H G0 ks LA IW m v fa rb ls d ba rd (Mk.HX<|found.take i) i bl)
    ⟨_,_,_,_,_,_,J9,rfl,by rw[Gj,Fu,El];exact I1⟩ (λj σ G _ gR=>(by obtain⟨_,_,_,_,_,_,_,_,I⟩:=gR;exact Il.of<|toG I _ _ (Oj _ _ hba))) ?_ ?_⟩
   ·rintro j x σ G ex ⟨o8,o9,ME,LI,LH,K',J9,rfl,I⟩;obtain⟨ways,ew,wa,wsx,rfl,ZX,hwp⟩:=oZ hbp ex;have ZX:=sF _ _ ZX;obtain⟨wl,wb⟩:=bw ways<|DO ew;have wl2:=hwp.length;rw[DH]at wl2;have hA:∀ {w i2:Nat}{way:Ξ},ways[w]?=some way->(Mk.JS (Mk.HX (found.take i)++(bl.take j).map λways=>(i,ways))++Mk.JR (Mk.HX (found.take i)++(bl.take j).map λways=>(i,ways)).length (ways.take w)++(Mk.LR (Mk.HX (found.take i)++(bl.take j).map λways=>(i,ways)).length w way).take i2).length<=1000000:=λhw=>Mk.room hB ebl ew hw;have tkb:Mk.HX (found.take i)++(bl.take<|j+1).map (λways=>(i,ways))=(Mk.HX (found.take i)++(bl.take j).map λways=>(i,ways))++[(i,ways)]:=by rw[be ew,DP,Ez];rfl
    generalize (Mk.HX (found.take i)++(bl.take j).map λways=>(i,ways))=es at I hA tkb;refine⟨_,rfl,_,rfl,λea dx nx ndx nex=>⟨ea,dx,rd,m,rfl,ag,hm,λlp G2 N5 hN=>?_⟩⟩;have ZM:=I.out nx;have hn:∀ {b:Addr},upd (upd (upd G dx<|.own ea) ea<|.ins CE dx []) ea (.ins CE dx [("rows",.ref rd)]) b=none->b≠ea/\G b=none:=λ{b} hb=>by
     have c1:b≠ea:=λz=>by rw[z,ag]at hb;cases hb
     have c2:b≠dx:=λz=>by rw[ab c1,ab c1,z,ag]at hb;cases hb
     rw[ab c1,ab c1,ab c2]at hb;exact⟨c1,hb⟩
    have eE:f' G (upd G2 ea<|qe CE dx rd lp):=λb o hb=>by have c1:b≠ea:=aq hb nx;rw[ab c1];exact N5 _ _ (by rw[ab c1,ab c1,ab<|aq hb ndx];exact hb)
    have H2G:=Oj.trans<|toG I;have I2:=I.Ih (ways:=ways) (c:=i) nx eE ⟨rd,dx,lp,WS,(xu ZM<|H2G.free nx).trans ag,hN.mono λb o hb=>by
     unfold grow at hb;by_cases c1:upd (upd (upd G dx<|.own ea) ea<|.ins CE dx []) ea (.ins CE dx [("rows",.ref rd)]) b=none
     ·rw[if_pos c1]at hb;obtain⟨c2,c3⟩:=hn c1;rw[xu (I.out c3)<|H2G.free c3,ab c2];exact hb
     ·rw[if_neg c1]at hb;cases hb⟩
    have eal:(J9++[ea])[es.length]?=some ea:=by obtain⟨_,_,g3,_⟩:=I;rw[<- Paired.length g3,Es<|DV _,Nat.sub_self];rfl
    generalize J9++[ea]=W6 at I2 eal;generalize upd G2 ea (qe CE dx rd lp)=G3 at I2;refine⟨rfl,_,rfl,wa,wsx,rfl,toG I2 _ _<|Oj _ _ ZX,vV (K:=K) (xs:=wsx) (As3 CE H G0 ks LA IW m v fa rb ls d ba rd wa ea (es++[(i,ways)]) (Mk.JS es) es.length ways W6)
     ⟨_,_,_,_,rfl,by have e:Mk.JR es.length (ways.take 0)=[]:=rfl;rw[e,El];exact I2⟩ (λw σ G _ gR=>(by obtain⟨_,_,_,_,_,I⟩:=gR;exact Il.of<|toG I _ _ (Oj _ _ ZX))) ?_ ?_⟩
    ·rintro w x Tw σ G ex ⟨ME,LI,LH,K',rfl,I⟩ hTw;obtain⟨way,ewy,wy,ns,rfl,Ug,hns⟩:=oZ hwp ex;rw[ju hns]at Ug;have Ug:=sF _ _ Ug;obtain⟨wyz,wyk⟩:=wb way<|DO ewy;have I1:=I.mono<|aV (f'.refl _) hTw (o:=.tup [.int w,.ref wy]);generalize upd G Tw (.tup [.int w,.ref wy])=G1 at I1;have hwm:w<m:=by have:=(DJ.mp ewy).1;omega
     have est:((Mk.starts m).map V.int)[w]?=some (.int<|Mk.st w):=by unfold Mk.starts;rw[DN,DN,Fh hwm];rfl
     have Y':=toG I1 _ _<|Oj _ _ Ug;refine⟨_,rfl,_,rfl,_,rfl,ls,_,_,_,rfl,rfl,Il.of<|toG I1 _ _ (e2 _ _ Uk),kz est,(by show 1<=sizeLine;decide),λl1 G3 Sn _ MU=>⟨_,rfl,l1,wy,_,_,rfl,rfl,MU,Sn _ _ Y',?_,λlz G4 e4' lz0 hlz=>?_⟩⟩
     ·rw[DH];show 1+way.length<=2 ^ 24;omega
     have I4:=(I1.mono Sn).mono e4';have Z4:=Sn.trans e4';refine⟨wy,lz,rfl,⟨_,Il.of<|Z4 _ _ Y'⟩,⟨_,Il.of hlz⟩,u6 (K:=K) (xs:=way.map V.int) (As4 CE H G0 ks LA IW m v fa rb ls d ba rd wa ea wy lz (es++[(i,ways)]) (Mk.JS es++Mk.JR es.length (ways.take w)) es.length w way W6)
      ⟨_,_,rfl,hlz,(I1.mono Sn).out lz0,by rw[Gj,El];exact I4⟩ (λk σ G _ gR=>(by obtain⟨_,_,_,hz,_,I⟩:=gR;exact⟨Il.of<|toG I _ _ (Oj _ _ Ug),Il.of hz⟩)) ?_ ?_⟩
     ·rintro k x y Tq σ G ex ey ⟨LH,K',rfl,hlz,nlz,I⟩ hTq;obtain⟨num,en,rfl⟩:=xy ex;obtain⟨ah,eah,rfl⟩:=xy<|show ((Mk.st w::way).map V.int)[k]?=some y from ey;have tkw:(Mk.LR es.length w way).take (k+1)=(Mk.LR es.length w way).take k++[(num,es.length,w,ah)]:=by refine be ?_;unfold Mk.LR;rw[DN,(@HE _ _ way (Mk.st w::way) (num,ah) k).mpr ⟨en,eah⟩];rfl
      have hk:=wyk num<|DO en;have eq:f' G (upd G Tq<|.tup [.int num,.int ah]):=aV (f'.refl _) hTq;have YJ:(upd G Tq<|.tup [.int num,.int ah]) Tq=some (.tup [.int num,.int ah]):=ag;generalize upd G Tq (.tup [.int num,.int ah])=G5 at eq YJ;have I5:=I.mono eq;obtain⟨g1,g2,_,_⟩:=id I5;obtain⟨_,ys,Ue,hyp⟩:=g2 num hk;have yl:=Paired.length hyp;refine⟨Tq,_,rfl,Kc.of YJ,rfl,_,_,rfl,_,[],rfl,rfl,?_⟩;refine⟨_,rfl,_,rfl,d,.ref<|LA num,rfl,(by rw[<- (QX num hk).2.2];exact LV.k (k:=Sum.inl num)<|iL _ _ (g1 _ _ YB)),.inl ⟨rfl,_,Il.of Ue⟩,_,rfl,_,rfl,_,rfl,(by show 3<=sizeLine;decide),λtb G6 e6 h6 WB=>?_⟩;refine⟨LA num,_,_,rfl,rfl,e6 _ _ Ue,?_,_,_,rfl,?_,nlz,?_⟩
      ·have h1:=Mk.SQ (Mk.JS es++Mk.JR es.length (ways.take w)++(Mk.LR es.length w way).take k) num;have h2:=hA (i2:=k) ewy;show ys.length<2 ^ 24;omega
      ·rw[ab<|show lz≠LA num from λz=>nlz (by rw[z];exact DS hk)];exact e6 _ _ (eq _ _ hlz)
      ·rw[tkw,<- Ez];exact (I5.mono e6).app inj hk (e6 _ _ Ue) eal ((Oj.trans<|toG I5).free h6) WB
     ·rintro σ G ⟨LH,K',rfl,_,_,I⟩;refine⟨_,_,_,_,rfl,?_⟩;have:min (way.map V.int).length ([V.int<|Mk.st w]++way.map V.int).length=(Mk.LR es.length w way).length:=by have:=congrArg List.length<|Mk.Oq es.length w way;rw[DH]at this;rw[DT,DH,this];simp
      rw[this,Et]at I;rw[Mk.OE ewy,<- Ez];exact I
    ·rintro σ G ⟨ME,LI,LH,K',rfl,I⟩;rw[wl2,Et,<- Mk.OG es (i,ways)]at I;exact⟨_,_,_,_,_,_,W6,rfl,by rw[tkb];exact I⟩
   ·rintro σ G ⟨o8,o9,ME,LI,LH,K',J9,rfl,I⟩;refine⟨_,_,_,_,_,_,_,_,J9,rfl,?_⟩;rw[bl2,Et]at I;rw[Mk.Np ebl];exact I
  ·rintro σ G ⟨o6,o7,o8,o9,ME,LI,LH,K',J9,rfl,I⟩;have:min fs.length (IW.map V.ref).length=found.length:=by rw[DH,fl,rl,Nat.min_self]
   rw[this,Et]at I;obtain⟨g1,g2,g3,g4⟩:=id I;refine⟨_,rfl,q d G J9 (Oj.trans<|toG I) ⟨ķ,LA,?_,λk hk=>⟨(QX k hk).2.2,?_⟩⟩ (Paired.JD g3 λea Ih z=>z.mono iL) g4⟩
   ·rw[aw<|Oj.free d0];exact iL _ _ (g1 _ _ YB)
   ·obtain⟨g0,xs,a,b⟩:=g2 k hk;exact⟨xs,by rw[aw g0];exact a,Paired.JD b λ_ _ z=>by have:=z.mono [] iL;rwa [El]at this⟩
end
def KT (H G:Hp):Prop:=(∀ b xs,H b=some (.lst xs)->G b=some (.lst xs))/\∀ b xs,H b=some (.tup xs)->G b=some (.tup xs)
theorem KT.of (e:f' H G):KT H G:=⟨λ_ _ h=>e _ _ h,λ_ _ h=>e _ _ h⟩
theorem KT.trans (a:KT H G)(b:KT G G'):KT H G':=⟨λ_ _ h=>b.1 _ _<|a.1 _ _ h,λ_ _ h=>b.2 _ _<|a.2 _ _ h⟩
theorem KT.put (hd:G d=some o)(hl:∀ xs,o≠.lst xs)(ht:∀ xs,o≠.tup xs):KT G (upd G d o'):=
 ⟨λb xs h=>by rw[ab (λz=>by rw[z]at h;exact hl xs<|Option.some.inj (hd.symm.trans h))];exact h,λb xs h=>by rw[ab (λz=>by rw[z]at h;exact ht xs<|Option.some.inj (hd.symm.trans h))];exact h⟩
theorem uR (k:KT H G)(h:DR H (rw r) v):DR G (rw r) v:=by obtain⟨a,vs,e,h1,h2⟩:=h;rw[ju h2]at h1;exact⟨a,_,e,k.1 _ _ h1,r9 _⟩
theorem sQ {g:α->Ξ}(k:KT H G):∀ {l:List α}{vs:π},Ij H (l.map λx=>rw (g x)) vs->Ij G (l.map λx=>rw (g x)) vs
 | [],_,h=>h
 | _::_,_,⟨v,ws,e,h1,h2⟩=>⟨v,ws,e,uR k h1,sQ k h2⟩
theorem yh (k:KT H G)(h:DR H (tb t) v):DR G (tb t) v:=by obtain⟨a,vs,e,h1,h2⟩:=h;exact⟨a,vs,e,k.1 _ _ h1,sQ k h2⟩
def IQ (H:Hp)(d:Addr)(R:Mk.Md):Prop:=∃ ķ,H d=some (.dK ķ)/\ķ.map (·.1)=R.map (λr=>(.inl r.1:Key))/\Ij H (R.map λr=>rw r.2) (ķ.map (·.2))
theorem IQ.dr (h:IQ H d R):DR H (bz R) (.ref d):=by obtain⟨ķ,h1,h2,h3⟩:=h;refine⟨d,ķ,rfl,.inl h1,by rw[h2,DL];rfl,?_⟩;rw[DL];exact h3
theorem IQ.mono (e:f' H H')(h:IQ H d R):IQ H' d R:=let ⟨ķ,h1,h2,h3⟩:=h;⟨ķ,e _ _ h1,h2,h3.mono e⟩
theorem IQ.kt (k:KT G G')(hd:G' d=G d)(h:IQ G d R):IQ G' d R:=let ⟨ķ,h1,h2,h3⟩:=h;⟨ķ,hd.trans h1,h2,sQ k h3⟩
theorem IQ.put (h:IQ Γ d R)(e:f' Γ G)(hk:¬ k∈R.map (·.1))(hv:DR Γ (rw r) v)(hz:R.length<2 ^ 24):
  ∃ o,Oo G d (.int k) v (upd G d o)/\IQ (upd Γ d o) d (R++[(k,r)])/\KT Γ (upd Γ d o)/\∃ ķ,Γ d=some (.dK ķ):=by
 obtain⟨ķ,h1,h2,h3⟩:=h;have kl:ķ.length=R.length:=by have:=congrArg List.length h2;rwa [DH,DH]at this
 have hn:cu ķ (Sum.inl k)=none:=by
  unfold cu;rw[EU.mpr λq hq z=>hk ?_]
  ·rfl
  ·have:(Sum.inl k)∈ķ.map (·.1):=DZ z▸DS hq;rw[h2]at this;obtain⟨x,hx,ex⟩:=DI.mp this;exact DI.mpr ⟨x,hx,Sum.inl.inj ex⟩
 have kt:KT Γ (upd Γ d<|.dK (cO ķ (Sum.inl k) v)):=KT.put h1 (λ_ z=>nomatch z) λ_ z=>nomatch z;refine⟨_,Oo.k (k:=Sum.inl k) (e _ _ h1) (by rw[kl];exact hz),⟨_,ag,?_,?_⟩,kt,_,h1⟩
 ·rw[im _ hn,DP,h2,DP];rfl
 ·rw[show (cO ķ _ v).map _=ķ.map _++[v] by rw[im _ hn,DP];rfl,DP];exact (sQ kt h3).app (.one<|uR kt hv)
structure O6 (CE:Addr) (G:Hp) (IW J9:υ) (ears:List Mk.IB) (T:Mk.Om):Prop where
 rows:∀ c d,IW[c]?=some d->IQ G d (T.R.getD c [])
 ears:∀ e ea,J9[e]?=some ea->∃ d dx l,IW[(ears.getD e (0,[])).1]?=some d/\G ea=some (qe CE dx d l)/\DR G (tb (T.P.getD e [])) (.ref l)
theorem O6.mono {CE:Addr}{ê:List Mk.IB}{T:Mk.Om}(e:f' G G')(h:O6 CE G IW J9 ê T):O6 CE G' IW J9 ê T:=
 ⟨λc d hc=>(h.rows c d hc).mono e,λi ea he=>let ⟨d,dx,l,a,b,c⟩:=h.ears i ea he;⟨d,dx,l,a,e _ _ b,c.mono e⟩⟩
theorem O6.put {CE:Addr}{ê:List Mk.IB}{T:Mk.Om}(h:O6 CE G IW J9 ê T)(hp:G pd=some (.dK ķ))(k:KT G (upd G pd o))(np:¬ pd∈IW):O6 CE (upd G pd o) IW J9 ê T:=
 ⟨λc d hc=>(h.rows c d hc).kt k<|ab λz=>np<|z▸DO hc,λe ea he=>let ⟨d,dx,l,a,b,c⟩:=h.ears e ea he;⟨d,dx,l,a,by rw[ab (λz=>by rw[z,hp]at b;cases b)];exact b,yh k c⟩⟩
theorem oX (e:f' H H1):f' (grow emp H1 H2) (grow F H H2):=λb o h=>by
 unfold grow at h;by_cases c:H1 b=none
 ·rw[if_pos c]at h;rw[aw<|e.free c];exact h
 ·rw[if_neg c]at h;cases h
theorem iM (h:grow emp H G b=some o):H b=none/\G b=some o:=by
 unfold grow at h;by_cases c:H b=none
 ·rw[if_pos c]at h;exact⟨c,h⟩
 ·rw[if_neg c]at h;cases h
theorem jn:∀ {vs:π}{l:List α},Paired R vs l->(∀ v a,a∈l->R v a->DR F (g a) v)->Ij F (l.map g) vs
 | _,_,.nil,_=>rfl
 | _,_,.cons h t,k=>⟨_,_,rfl,k _ _ E7 h,jn t λv a ha=>k v a<|E6 _ ha⟩
theorem zm (m:Nat):(Mk.starts m).Nodup:=by unfold Mk.starts;rw[List.Nodup,G9];exact List.nodup_range.imp λn z=>n (by unfold Mk.st at z;omega)
noncomputable def jR (m:Nat):Mk.Md:=(List.range m).map λw=>(Mk.st w,Mx.HL m w)
noncomputable def cB (p:Int)(m:Nat)(ç:Θ)(ê:List Mk.IB)(ord:List Mk.J1)(n:Nat):Mk.Md:=(List.range n).map λi=>((ord.getD i (0,none)).1,Mk.HZ p m ê (Mk.stN p m ç ê ord i) (ord.getD i (0,none)))
theorem gi (ord:List Mk.J1):(cB p m ç ê ord ord.length).map (·.1)=ord.map (·.1):=by
 unfold cB;rw[DL];refine GB λj=>?_;rw[DN,DN];by_cases hj:j<ord.length
 ·rw[Fh hj,DF hj];show some (ord.getD j _).1=_;rw[c7<|DF hj];rfl
 ·rw[Ed<|by simpa using hj,Ed<|by omega];rfl
structure Ck (S:NS) (m:Nat) (p:Int) (ç:Θ) (found:List Δ):Prop where
 ord:l7 S (bF (bo S) S.names.length)
 mem:∀ x∈bF (bo S) S.names.length,x∈S.names
 Ro:(S.HM.map (·.1)).Nodup
 IX:(ai S).length<64
 mt:∀ r∈ai S,r.1∈S.HM.map (·.1)/\∀ ks,r.2=some ks->ks.length<=1000
 p1:p<=1000000
 fl:found.length=ç.length
 fz:found.length<=1000
 mz:m<=1000
 QZ:Mk.Ls p m ç (Mk.HX found) (ai S)
 all:(Mk.JS (Mk.HX found)).length<=1000000
 bnd:∀ bl∈found,bl.length<=1000/\∀ ways∈bl,ways.length<=m/\∀ way∈ways,way.length<=1000/\∀ k∈way,k∈S.HM.map (·.1)
 ez:(Mk.HX found).length<=1000
inductive wF (c:Cl) (C:Addr):Ä
 |mk {S:NS}{m:Nat}{p:Int}{ç:Θ}{found:List Δ}:Ck S m p ç found->wF c C [aI c S,.int m,fD C p,tb ç,Rr found] (bz (OL (·.1) (cB p m ç (Mk.HX found) (ai S) (ai S).length)))
section
variable {P:É}{c:Cl}{CE:Addr}
inductive MpI (CE:Addr) (F H Γ1:Hp) (v0 vf vl vx:V) (rb ad pd:Addr) (m:Nat) (p:Int) (ç:Θ) (ê:List Mk.IB) (ord:List Mk.J1) (QM:ξ) (IW J9:υ) (i:Nat) (σ:St) (G:Hp):Prop
 |mk (o8 o9 ME LI LH K' MD RA:Ç):σ=[some v0,some (.int (m:Int)),some vf,some vl,some vx,some (.ref rb),some (.ref ad),some (.ref pd),o8,o9,ME,LI,LH,K',MD,RA]->f' H G->KT Γ1 (grow F H G)->grow F H G ad=some (.dK QM)->IQ (grow F H G) pd (cB p m ç ê ord i)->O6 CE (grow F H G) IW J9 ê (Mk.stN p m ç ê ord i)->MpI CE F H Γ1 v0 vf vl vx rb ad pd m p ç ê ord QM IW J9 i σ G
inductive Mp0 (H:Hp) (m:Nat) (l:Addr) (i:Nat) (H1:Hp):Prop
 |mk (IW:υ):H l=none->f' H H1->IW.length=i->IW.Nodup->(∀ d∈IW,IQ (bg l (grow emp H H1)) d (jR m))->H1 l=some (.lst (IW.map V.ref))->Mp0 H m l i H1
inductive Mp3 (CE:Addr) (F H G4:Hp) (v0 vx mv mx:V) (fa lc rb ad pd:Addr) (m:Nat) (QM:ξ) (IW J9:υ) (ê:List Mk.IB) (k:Int) (K' MD RA:Ç) (pl:Mk.Md) (X R:List Mk.Md) (P:Δ) (c:Nat) (σ:St) (G:Hp):Prop
 |mk (LI LH:Ç):σ=[some v0,some (.int (m:Int)),some (.ref fa),some (.ref lc),some vx,some (.ref rb),some (.ref ad),some (.ref pd),some (.int k),some mv,some mx,LI,LH,K',MD,RA]->f' H G->KT (grow F H G4) (grow F H G)->grow F H G ad=some (.dK QM)->IQ (grow F H G) pd pl->O6 CE (grow F H G) IW J9 ê ⟨X.take c++R.drop c,P⟩->Mp3 CE F H G4 v0 vx mv mx fa lc rb ad pd m QM IW J9 ê k K' MD RA pl X R P c σ G
inductive Mp4 (CE:Addr) (F H G5:Hp) (v0 vx mv mx:V) (fa lc rb ad pd:Addr) (m:Nat) (QM:ξ) (IW J9:υ) (ê:List Mk.IB) (k:Int) (LI LH:Ç) (pl:Mk.Md) (p:Int) (A:List Mk.Ask) (T:Mk.Om) (j:Nat) (σ:St) (G:Hp):Prop
 |mk (K' MD RA:Ç):σ=[some v0,some (.int (m:Int)),some (.ref fa),some (.ref lc),some vx,some (.ref rb),some (.ref ad),some (.ref pd),some (.int k),some mv,some mx,LI,LH,K',MD,RA]->f' H G->KT (grow F H G5) (grow F H G)->grow F H G ad=some (.dK QM)->IQ (grow F H G) pd pl->O6 CE (grow F H G) IW J9 ê ((A.take j).foldl (Mk.Kh p ê k) T)->Mp4 CE F H G5 v0 vx mv mx fa lc rb ad pd m QM IW J9 ê k LI LH pl p A T j σ G
noncomputable abbrev i4:Stmt:=top 89
theorem Mt:ae ["net","many","field","chosen","found","rows_by_choice","asks","plan","number","into","mixed","choice","rows","ear","way","ahead"] ò (a8 i4):=IM
theorem tG (F:Iy K "made_plan" "made_plan" i4 f fd)(T:Kj K mg CE)(TD:mg "dict"=none)(IK:Df P w K mg base 1 "message_ties" č (Pr cX))(JF:Df P w K mg base 2 "ones" č (Pr sd))(Ks:Df P w K mg base 5 "asks_by_tie" ô (sx c CE))(Ii:Df P w K mg base 3 "mixing_ties" ["net"] (Pr (iP c l7)))(Kp:Df P w K mg base 5 "multipliers" ["field","mixed","asks"] (Pr (gD C CE)))(Lx:Df P w K mg base 5 "mixed_row" õ (Pr (jE C)))(Jw:Dm P w K mg base 5 CE "move_front" ã (sw C CE))(Ip:Df P w K mg base 1 "by_number" ["told"] (Pr cW)):HP P w K mg base Ik 6 f fd ò (Pr (wF c C)):=by
 refine F.ok Mt (λvs H Q E gR=>(by obtain⟨_,_,_,_,hl,hR,_⟩:=gR;cases hR;exact hl.length)) (λHU A outer s H vs Q E hr h=>?_)
 ·obtain⟨F,_,_,sF,hl,@⟨S,m,p,ç,found,O⟩,q⟩:=h;obtain⟨v0,_,rfl,h0,_,_,rfl,rfl,vf,_,rfl,hf,vl,_,rfl,a2i,vx,_,rfl,hx,rfl⟩:=hl;obtain⟨lc,cs,rfl,a2h,hcp⟩:=id a2i;obtain⟨fa,_,_,rfl,_⟩:=id hf;have Q1:=sF _ _ a2h;have ND:=Mt.nd;have p2:=((My.HY p).mp O.QZ.prime).1;have cl:=hcp.length;rw[DH]at cl;have mz:=O.mz;have fl:=O.fl;have fz:=O.fz;refine⟨_,(aj (aP (i:=5) ND rfl rfl rfl (cS 1 [1] ["choice","many"]) (t6 K<|pv 3)
  (λ_ _ _ _ _=>pC 0)
  (λ_ _ _ _ _=>LG)
  (λ_ _ _ _ _=>xb K rfl rfl TD rfl T.Kw<|a9 (b7 IK hr.m rfl<|a9 (pv 1) D') (a9 (b7 JF hr.m rfl<|a9 (pv 1) D') D')))
 (aj (pS 6 ND<|b7 Ks hr.m rfl (a9 (pv 0)<|a9 (pv 1) (a9 (pv 4)<|a9 (pv 5) D')))
 (aj (pS 7 ND MB)
 (aj (bV E1 rfl (t6 K<|b7 Ii hr.m rfl (a9 (pv 0) D')) (cr K (n:=2) rfl<|af (pN 8 ND) (af (pN 9 ND) aD))
  (aj (pS 10 ND<|Th (dT l9 qK (Đ 9)<|dC b6) (dF IK hr.m rfl<|da (Đ 1) HS) (Đ 9))
 (aj (cA (ao hr) (pv 7) (pv 8) (b7 Kp hr.m rfl<|a9 (pv 2) (a9 (pv 10)<|a9 (pD (ao hr) (pv 6)<|pv 8) D')) rfl)
 (aj (bV E1 rfl (V1 K rfl T.Kw<|a9 (pv 3) (a9 (pv 5) D')) (cr K (n:=2) rfl<|af (pN 11 ND) (af (pN 12 ND) aD))
  (ar<|cA (ao hr) (pv 12) (pv 8) (Th (TC (ao hr) (Đ 8)<|Đ 11) (dO l8 qH ((d7<|da (dC aa) HS).p)<|Đ 1)<|dF Lx hr.m rfl (da (Đ 2)<|da (Đ 10) (da (dS (ao hr) (Đ 7)<|Đ 8)<|da (Đ 12) (da (Đ 1) HS)))) rfl))
 (ar (bV E1 rfl (t6 K<|pD (ao hr) (pv 6) (pv 8)) (cr K (n:=3) rfl<|af (pN 13 ND) (af (pN 14 ND)<|af (pN 15 ND) aD))
  (ar<|aE (bE (pv 13) Jw hr.m<|a9 (pv 2) (a9 (pv 14)<|a9 (pv 8) D')))))))))
 (ar<|bJ (b7 Ip hr.m rfl<|a9 (pv 7) D')))))),?_⟩
  refine⟨_,rfl,lc,rfl,⟨_,Il.of Q1⟩,rT (K:=K) (xs:=cs) (Mp0 H m)
   (λl hl=>⟨[],hl,aV (f'.refl _) hl,rfl,Ft,(λa ha=>nomatch ha),ag⟩) (λl i H1 _ h=>let ⟨_,_,e,_,_,_,_⟩:=h;Il.of<|e _ _ Q1) (λl i v H1 ev h=>?_) (λrb H1 h=>?_)⟩
  ·obtain⟨IW,hl,e1,rl,rn,WC,RI⟩:=h;have hi:i<cs.length:=(DJ.mp ev).1;dsimp only[wP];rw[if_pos rfl];refine⟨_,rfl,emp,_,_,d6,So (d:=.int m) rfl,⟨mz⟩,λla H2 e2 hla=>?_⟩;refine⟨_,rfl,emp,_,_,d6,So (d:=.int m) rfl,⟨mz⟩,λlo H3 e3 T5=>?_⟩;obtain⟨la,us,rfl,hla,SX⟩:=hla;obtain⟨lo,os,rfl,T5,hos⟩:=T5;have Tg:=e2.trans e3;have k1:(jR m).map (λr=>D.int r.1)=(Mk.starts m).map .int:=by unfold jR Mk.starts;rw[DL,DL];rfl
   have k2:(jR m).map (λr=>rw r.2)=(Mx.ones m).map rw:=by unfold jR Mx.ones;rw[DL,DL];rfl
   have a16:=hos.mono<|oX (F:=emp) (e1.trans e2);obtain⟨ķ,a1,a2,a3⟩:=Ax (F:=grow emp H H3) (ð:=(jR m).map λr=>((.inl r.1:Key),rw r.2)) (vs:=us) (us:=os) (by rw[DL];rw[ju SX];exact k1▸r9 _) (by rw[DL];exact k2▸a16);have kl:ķ.length=m:=by have:=congrArg List.length a3;rw[DH,DH,DH]at this;rw[this];simp[jR]
   refine⟨la,lo,ķ,rfl,Il.of ?_,Il.of ?_,by omega,λd H4 e4 h4 hd=>?_⟩
   ·rw[<- a1];exact e3 _ _ (lA _ _ hla)
   ·rw[<- a2];exact lA _ _ T5
   rw[lr [] _ (by rw[EW,a3];refine tV (f:=λr:Int×List Int=>r.1) ?_;unfold jR;rw[DL];exact zm m),EW]at hd
   have Z4:=Tg.trans e4;have a11:=Z4 _ _ RI;have ndl:d≠l:=(aq (Tg _ _ RI) h4).symm;have YB:H d=none:=(e1.trans Tg).free h4;refine⟨_,a11,by rw[DH,rl];show i<2 ^ 24;omega,IW++[d],hl,aW (e1.trans Z4) hl,by rw[DT,rl];rfl,?_,λb hb=>?_,by rw[ag,DP];rfl⟩
   ·refine Ej.mpr ⟨rn,by simp,λb hb b' Oc e=>?_⟩;rw[E5.mp Oc]at e;subst e;obtain⟨XZ,g1,_⟩:=WC b hb;have:=Tg _ _<|lA _ _ (IG _ _ g1);rw[h4]at this
    cases this
   ·rw[bd hl,d3];rcases Ea.mp hb with hb|hb
    ·exact (WC b hb).mono (ly<|aQ Z4)
    ·rw[E5.mp hb];refine⟨ķ,by rw[bN ndl,aw YB];exact hd,by rw[a3,DL];rfl,?_⟩;rw[k2,<- a2];refine hos.mono λb o hb=>?_;obtain⟨b1,b2⟩:=iM hb;rw[bN (λz=>by rw[z,e2 _ _ RI]at b1;cases b1),aw<|(e1.trans e2).free b1];exact e4 _ _ b2
  ·obtain⟨IW,a12,e1,rl,rn,WC,Yi⟩:=h;have rlf:IW.length=found.length:=by omega
   refine⟨_,rfl,_,rfl,_,rfl,_,rfl,F,v0,vx,rb,S,m,found,IW,sF.trans e1,rfl,h0,by have:=O.ord.2.2.2.1;omega,O.Ro,hx,Yi,rlf,fz,mz,O.all,O.bnd,λad H2 J9 e2 hA hEN end_=>?_⟩;intro pd Ym;have Py:=e1.trans e2;have QR:H pd=none:=Py.free Ym;have Z3:f' H2 (upd H2 pd<|.dK []):=aV (f'.refl _) Ym;have Yl:upd H2 pd (.dK []) pd=some (.dK []):=ag;generalize upd H2 pd (.dK [])=H3 at Z3 Yl;have e03:=Py.trans Z3;refine⟨_,rfl,prG sF e03 (So<|h0.mono (ak sF)) (.mk O.ord O.mem (by have:=O.ord.2.2.2.1;omega) (by have:=O.IX;unfold ai at this;omega)) λx H4 e4 Yr=>?_⟩;obtain⟨l,xs,rfl,hl,Yr⟩:=Yr;have Z6:=e03.trans e4;have g24:f' (grow F H H2) (grow F H H4):=aQ<|Z3.trans e4;have hA:=hA;obtain⟨QM,LA,had,a2B⟩:=id hA;have toΓ:f' (grow emp H1 H2) (grow F H H4):=(oX e1).trans g24;generalize VI:HR S (bF (bo S) S.names.length)=ord at Yr;have VI:ai S=ord:=VI;have G:=O.QZ;have IX:=O.IX;have mt:=O.mt;rw[VI]at G IX mt q;generalize Yz:Mk.HX found=ê at *
   have xl:=Yr.length;rw[DH]at xl;have el:=Paired.length hEN;have rd1:∀ {d},d∈IW->H d=none/\∃ ķ,H1 d=some (.dK ķ):=λ{d} hd=>by obtain⟨ķ,g,_⟩:=WC d hd;obtain⟨g1,g2⟩:=iM<|IG _ _ g;exact⟨g1,ķ,g2⟩
   have nad:¬ ad∈IW:=λz=>by
    obtain⟨_,_,g⟩:=rd1 z;rw[(iM had).1]at g
    cases g
   have npd:¬ pd∈IW:=λz=>by
    obtain⟨_,_,g⟩:=rd1 z;rw[e2 _ _ g]at Ym
    cases Ym
   have nap:ad≠pd:=λz=>by
    have:=(iM had).2;rw[z,Ym]at this
    cases this
   have eaN:∀ {e ea},J9[e]?=some ea->H ea=none:=λhe=>by obtain⟨_,_,_,_,_,_,g,_⟩:=Paired.at hEN he;exact e1.free (iM g).1
   have st0:O6 CE (grow F H H4) IW J9 ê (Mk.stN p m ç ê ord 0):=by
    refine⟨λc d hc=>?_,λe ea he=>?_⟩
    ·have hcl:=(DJ.mp hc).1;have:(Mk.start m ç ê).R.getD c []=jR m:=c7 (by show (ç.map λ_=>_)[c]?=_;rw[DN,DF<|by omega];rfl)
     show IQ _ d ((Mk.start m ç ê).R.getD c []);rw[this];exact (WC d<|DO hc).mono (IG.trans<|(oX (F:=F)<|f'.refl H).trans (aQ<|e2.trans (Z3.trans e4)))
    ·obtain⟨Ih,ee,d,dx,l,hd,g1,g2⟩:=Paired.at hEN he;have:(Mk.start m ç ê).P.getD e []=Mx.ones m:=c7 (by show (ê.map λ_=>Mx.ones m)[e]?=_;rw[DN,ee];rfl)
     refine⟨d,dx,l,by rw[c7 ee];exact hd,toΓ _ _ g1,?_⟩;show DR _ (tb<|(Mk.start m ç ê).P.getD e []) (.ref l);rw[this];exact g2.mono toΓ
   have hl4:=aJ sF Z6 _ _ hl;refine⟨l,rfl,⟨_,Il.of hl4⟩,fV (K:=K) (xs:=xs) (MpI CE F H (grow F H H4) v0 (.ref fa) (.ref lc) vx rb ad pd m p ç ê ord QM IW J9) ⟨none,none,none,none,none,none,none,none,rfl,Z6,KT.of<|f'.refl _,toΓ _ _ had,⟨[],by rw[aw QR];exact e4 _ _ Yl,rfl,rfl⟩,st0⟩ (λi σ G h1 h=>?_) ?_ ?_⟩
   ·obtain⟨_,_,_,_,_,_,_,_,_,eG,kG,_,_,_⟩:=h;exact Il.of (aJ sF eG _ _<|kG.1 _ _ hl)
   ·rintro i v σ G1 ev ⟨o8,o9,ME,LI,LH,K',MD,RA,rfl,eG,kG,VU,ZJ,M⟩;obtain⟨r,er,hv⟩:=oZ Yr ev;obtain⟨tp,_,rfl,Sb,_,_,rfl,rfl,mv,_,rfl,hmv,rfl⟩:=hv;have hi:i<ord.length:=(DJ.mp er).1;have rm:=DO er;have I:=Mk.KJ G i (by omega);have pre:=Mk.ON I G er;have ego:ord.getD i (0,none)=r:=c7 er;have a2d:DR (grow F H G1) (Og r.2) mv:=by
     cases h:r.2 with
     | none=>rw[h]at hmv;exact hmv
     | some ks=>rw[h]at hmv;exact uR kG hmv
    refine⟨tp,_,rfl,Kc.of<|aJ sF eG _ _ (kG.2 _ _ Sb),rfl,_,_,rfl,_,[],rfl,rfl,?_⟩;refine tPG eG (ε:=[none,some<|.int m,none,none,none,none,none,none,none,some<|Og r.2]) (d:=rw (Mk.IC m r.2)) (Jh<|KI rfl (Jh<|Jh (Jh<|Jh (Jh<|Jh (Jh<|KI a2d (Rb<|aJ sF eG)))))) ?_ λmx G2 Py Yq=>?_
    ·cases r.2 with
     | none=>exact .t ⟨rfl,rfl,.mk⟩ ⟨⟨rfl,rfl⟩,⟨mz⟩⟩
     | some ks=>exact .f ⟨rfl,rfl,.mk⟩ rfl
    obtain⟨Yu,axs,YE,hap⟩:=a2B r.1 (mt r rm).1;have axl:=Paired.length hap;have mk:∀ R∈(Mk.stN p m ç ê ord i).R,∀ k∈Mk.IC m r.2,k∈R.map (·.1):=λR hR k hk=>by
     rw[I.keys R hR]
     cases h:r.2 with
     | none=>rw[h]at hk;exact Ew _ hk
     | some ks=>rw[h]at hk;exact Ec _ (G.ahd i r ks er h k hk)
    have mlz:(Mk.IC m r.2).length<=1000:=by
     cases h:r.2 with
     | none=>show (Mk.starts m).length<=1000;unfold Mk.starts;simpa using mz
     | some ks=>exact (mt r rm).2 ks h
    have alz:(Mk.ID ê r.1).length<=1000:=Ei (Mk.PD G.UC r.1)<|Yz▸O.ez;have pn:cB p m ç ê ord (i+1)=cB p m ç ê ord i++[(r.1,Mk.HZ p m ê (Mk.stN p m ç ê ord i) r)]:=by unfold cB;rw[Hq,DP,DX,ego];rfl
    have nk:¬ r.1∈(cB p m ç ê ord i).map (·.1):=λz=>by
     unfold cB at z;rw[DL]at z;obtain⟨j,hj,ej⟩:=DI.mp z;have hj:=Eg.mp hj;have e1:(ord.map (·.1))[j]?=some r.1:=by rw[DN,DF<|by omega];have ej:(ord.getD j (0,none)).1=r.1:=ej;rw[c7<|DF (by omega)]at ej;exact congrArg some ej
     have e2:(ord.map (·.1))[i]?=some r.1:=by rw[DN,er];rfl
     have:=bR G.nd e1 e2;omega
    have st:Mk.stN p m ç ê ord (i+1)=Mk.NM p m ç ê (Mk.stN p m ç ê ord i) r:=by show Mk.NM p m ç ê (Mk.stN p m ç ê ord i) (ord.getD i (0,none))=_;rw[ego]
    have told:Mk.PY p (Mk.IC m r.2) (Mk.ID ê r.1) (Mk.shown p ê<|Mk.stN p m ç ê ord i)=Mk.HZ p m ê (Mk.stN p m ç ê ord i) r:=rfl;have eG2:=eG.trans Py;have k2:KT (grow F H H4) (grow F H G2):=kG.trans<|KT.of (aQ Py);have hdm:(cB p m ç ê ord i).length<2 ^ 24:=by unfold cB;rw[DH,Er];omega
    have M2:=M.mono<|aQ Py;generalize hT:Mk.stN p m ç ê ord i=Tm at *
    have one:∀ a∈Mk.ID ê r.1,∃ Ih,ê[a.1]?=some Ih/\Ih∈ê/\a.2.1<m/\ê.getD a.1 (0,[])=Ih:=λa am=>by obtain⟨Ih,way,h1,VX,_⟩:=Mk.Lo.mp<|Mk.Lm.mp am;have em:=DO h1;exact⟨Ih,h1,em,G.ways Ih em▸(DJ.mp VX).1,c7 h1⟩
    have K1:Zv p (Mk.ID ê r.1) (λa=>Tm.R.getD (ê.getD a.1 (0,[])).1 []) (λa=>Tm.P.getD a.1 []) (Mk.shown p ê Tm):=by
     refine⟨λa am=>?_,λa am=>?_,λa am b bm=>?_,λa am k=>?_⟩;all_goals obtain⟨Ih,h1,em,hw,YY⟩:=one a am
     ·rw[(I.ok a.1 Ih h1).len];exact hw
     ·have:=(I.ok a.1 Ih h1).at hw;exact⟨this.2,by rw[this.1];exact mz⟩
     ·rw[YY];exact mk _ (Mk.U' I G em) _ (pre.ahead b bm)
     ·unfold Mk.shown;rw[Mk.Ku h1,YY]
    refine⟨_,rfl,_,rfl,_,rfl,_,rfl,ad,.ref<|LA r.1,rfl,(by rw[<- Yu];exact LV.k (k:=Sum.inl r.1)<|aJ sF eG2 _ _ (aQ Py _ _ VU)),prG sF eG2 (dr3 (hf.mono<|ak sF) Yq (d2:=.lst<|(Mk.ID ê r.1).map (wB CE _ _)) ⟨LA r.1,axs,rfl,k2.1 _ _<|toΓ _ _ YE,jn hap λv a am h=>?_⟩) (.mk O.p1 K1 pre mlz alz) λlt G3 e3 Kb=>?_⟩
    ·obtain⟨b,ea,rfl,WL,hb⟩:=h;obtain⟨d,dx,l,hd,g1,g2⟩:=M2.ears a.1 ea WL;exact⟨b,_,rfl,k2.2 _ _<|toΓ _ _ hb,_,_,rfl,⟨ea,dx,_,rfl,g1,rfl,_,_,rfl,(M2.rows _ d hd).dr,_,_,rfl,g2,rfl⟩,_,_,rfl,rfl,_,_,rfl,rfl,rfl⟩
    have Tg:=Py.trans e3;have Z0:=eG.trans Tg;obtain⟨o,VH,T2,kp,kvp,hkp⟩:=(ZJ.mono<|aQ Tg).put (aJ sF Z0) nk Kb hdm;refine⟨_,rfl,_,rfl,pd,_,rfl,VH,?_⟩;rw[told,<- pn]at T2;have hG4:f' H (upd G3 pd o):=aW Z0 QR;have Ua:KT (grow F H G3) (grow F H<|upd G3 pd o):=by rw[bd QR];exact kp
    have k4:KT (grow F H H4) (grow F H<|upd G3 pd o):=(k2.trans<|KT.of (aQ e3)).trans Ua;have ad4:grow F H (upd G3 pd o) ad=some (.dK QM):=by rw[bd QR,ab nap];exact aQ Tg _ _ VU
    have M4:O6 CE (grow F H<|upd G3 pd o) IW J9 ê Tm:=by rw[bd QR];exact (M.mono<|aQ Tg).put hkp kp npd
    have mx4:DR (grow F H<|upd G3 pd o) (rw (Mk.IC m r.2)) mx:=uR Ua<|Yq.mono (aQ e3);rw[<- bd QR]at T2;generalize upd G3 pd o=G4 at hG4 k4 ad4 M4 mx4 T2;have rbΓ:grow F H H4 rb=some (.lst<|IW.map V.ref):=by rw[aw a12];exact e4 _ _ (Z3 _ _<|e2 _ _ Yi)
    have Rl:=I.rl;have Xl:(Mk.Ib p m ç Tm.R r<|Mk.HZ p m ê Tm r).length=ç.length:=by unfold Mk.Ib;rw[Hs,Rl,Nat.min_self]
    refine⟨_,rfl,_,rfl,lc,rb,rfl,⟨_,Il.of<|hG4 _ _ Q1⟩,⟨_,Il.of<|aJ sF hG4 _ _ (k4.1 _ _ rbΓ)⟩,u6 (K:=K) (xs:=cs) (ys:=IW.map V.ref) (Mp3 CE F H G4 v0 vx mv mx fa lc rb ad pd m QM IW J9 ê r.1 K' MD RA (cB p m ç ê ord<|i+1) (Mk.Ib p m ç Tm.R r<|Mk.HZ p m ê Tm r) Tm.R Tm.P)
     ⟨_,_,rfl,hG4,KT.of<|f'.refl _,ad4,T2,by rw[Gj,List.drop_zero,EW];exact M4⟩ (λc σ G _ gR=>(by obtain⟨_,_,_,a,b,_,_,_⟩:=gR;exact⟨Il.of<|a _ _ Q1,Il.of<|aJ sF a _ _ (b.1 _ _<|k4.1 _ _ rbΓ)⟩)) ?_ ?_⟩
    ·rintro c x' y' Tz σ G5 ex ey ⟨LI,LH,rfl,YZ,k5,ad5,Qs,M5⟩ hTz;obtain⟨ks,eks,hca⟩:=oZ hcp ex;rw[DN]at ey;obtain⟨rd,WS,rfl⟩:=EG.mp ey;have hc:c<ç.length:=(DJ.mp eks).1;have eT:f' G5 (upd G5 Tz<|.tup [x',.ref rd]):=aV (f'.refl _) hTz;have RO:(upd G5 Tz<|.tup [x',.ref rd]) Tz=some (.tup [x',.ref rd]):=ag;generalize upd G5 Tz (.tup [x',.ref rd])=G6 at eT RO;have Tf:=YZ.trans eT;have mx6:=(uR k5 mx4).mono<|aQ eT;have Px:=Qs.mono<|aQ eT;have eR:Tm.R[c]?=some (Tm.R.getD c []):=by rw[DG,DF (by rw[Rl];exact hc)];rfl
     have Rm:Tm.R.getD c []∈Tm.R:=DO eR;have gdc:((Mk.Ib p m ç Tm.R r<|Mk.HZ p m ê Tm r).take c++Tm.R.drop c).getD c []=Tm.R.getD c []:=by rw[Mk.PK _ _<|by omega,if_neg<|Fc _]
     have Yh:IQ (grow F H G6) rd (Tm.R.getD c []):=gdc▸(M5.rows c rd WS).mono (aQ eT);refine⟨Tz,_,rfl,Kc.of RO,rfl,_,_,rfl,_,[],rfl,rfl,?_⟩;refine tPG Tf (ε:=[none,some<|.int m,some<|fD C p,none,none,none,none,some<|bz (cB p m ç ê ord<|i+1),some<|.int r.1,none,some<|rw (Mk.IC m r.2),some<|rw ks,some<|bz (Tm.R.getD c [])]) (d:=rw (Mk.newRow p m ks (Tm.R.getD c []) r<|Mk.HZ p m ê Tm r)) (Jh<|KI rfl (KI (hf.mono<|ak sF)<|Jh (Jh<|Jh (Jh<|KI Px.dr (KI rfl<|Jh (KI mx6<|KI (hca.mono<|ak sF) (KI Yh.dr<|Rb (aJ sF Tf)))))))) ?_ λln G7 e67 WE=>?_
     ·have ri:=kg (n:=false) (i:=r.1) (ks:=ks);unfold Mk.newRow;by_cases KG:r.1∈ks
      ·rw[DM KG]at ri;rw[if_pos KG,jT];exact .t ⟨rfl,rfl,ri⟩ ⟨⟨⟨rfl,rfl⟩,by simp,rfl⟩,rfl,⟨mz⟩⟩
      ·rw[DQ KG]at ri;rw[if_neg KG];refine .f ⟨rfl,rfl,ri⟩ ⟨⟨rfl,rfl,⟨rfl,rfl,.k (wL (by rw[pn,DP];simp)) kI⟩,rfl,rfl,rfl⟩,?_⟩;rw[pn,Mk.OQ nk];exact .mk (by omega) O.p1 (λk hk=>⟨mk _ Rm k hk,I.rows _ Rm (k,_)<|Mk.Qo (mk _ Rm k hk)⟩) mlz mz
     have a3j:(Tm.R.getD c []).length<2 ^ 24:=by have:=congrArg List.length<|I.keys _ Rm;rw[DH,DT,DH,E4]at this;unfold Mk.starts at this;rw[DH,Er]at this;omega
     have eG7:=Tf.trans e67;obtain⟨o,VH,Ka,k7,kk,hkk⟩:=(Yh.mono<|aQ e67).put (aJ sF eG7) (Mk.OC I G er _ Rm) WE a3j;have rdm:=DO WS;have Ww:=(rd1 rdm).1;rw[<- bd Ww]at Ka k7;have g57:=aQ (F0:=F) (H0:=H)<|eT.trans e67;refine⟨_,rfl,_,rfl,rd,_,rfl,VH,_,_,rfl,aW eG7 Ww,(k5.trans<|KT.of g57).trans k7,?_,(Qs.mono g57).kt k7 ?_,?_⟩
     ·rw[bd Ww,ab<|show ad≠rd from λz=>nad<|z▸rdm];exact g57 _ _ ad5
     ·rw[bd Ww,ab<|show pd≠rd from λz=>npd<|z▸rdm]
     ·have M7:=M5.mono g57;refine⟨λc' d' Q3=>?_,λe ea he=>?_⟩
      ·show IQ _ d' (((Mk.Ib p m ç Tm.R r<|Mk.HZ p m ê Tm r).take (c+1)++Tm.R.drop (c+1)).getD c' []);rw[Mk.PK _ _<|by omega];by_cases cc:c'=c
       ·subst cc;rw[WS]at Q3
        cases Q3;rw[if_pos<|EX _,Mk.Lk eks<|by omega];exact Ka
       ·have ZO:d'≠rd:=λz=>cc<|bR rn (z▸Q3) WS;have h7:=(M7.rows c' d' Q3).kt k7 (by rw[bd Ww,ab ZO]);have e7:((Mk.Ib p m ç Tm.R r<|Mk.HZ p m ê Tm r).take c++Tm.R.drop c).getD c' []=if c'<c+1 then (Mk.Ib p m ç Tm.R r<|Mk.HZ p m ê Tm r).getD c' [] else Tm.R.getD c' []:=by
         rw[Mk.PK _ _<|by omega];by_cases lt:c'<c
         ·rw[if_pos lt,if_pos<|by omega]
         ·rw[if_neg lt,if_neg<|by omega]
        rw[<- e7];exact h7
      ·obtain⟨d,dx,l,hd,g1,g2⟩:=M7.ears e ea he;exact⟨d,dx,l,hd,by rw[bd Ww,ab (λz=>by rw[z,hkk]at g1;cases g1)];exact g1,yh k7 g2⟩
    ·rintro σ G5 ⟨LI,LH,rfl,YZ,k5,ad5,Qs,M5⟩;have mn:min cs.length (IW.map V.ref).length=ç.length:=by rw[DH];omega
     rw[mn,Ff<|by omega,List.drop_of_length_le<|by omega,El]at M5;have k05:=k4.trans k5;have Zi:=k05.1 _ _<|toΓ _ _ YE;have nda:=Mk.NH G.UC r.1;refine⟨_,rfl,_,rfl,ad,.ref<|LA r.1,rfl,(by rw[<- Yu];exact LV.k (k:=Sum.inl r.1)<|aJ sF YZ _ _ ad5),LA r.1,rfl,⟨_,Il.of<|aJ sF YZ _ _ Zi⟩,fV (K:=K) (xs:=axs) (Mp4 CE F H G5 v0 vx mv mx fa lc rb ad pd m QM IW J9 ê r.1 LI LH (cB p m ç ê ord<|i+1) p (Mk.ID ê r.1) { Tm with R:=Mk.Ib p m ç Tm.R r (Mk.HZ p m ê Tm r) })
      ⟨_,_,_,rfl,YZ,KT.of<|f'.refl _,ad5,Qs,M5⟩ (λj σ G _ gR=>(by obtain⟨_,_,_,_,a,b,_,_,_⟩:=gR;exact Il.of<|aJ sF a _ _ (b.1 _ _ Zi))) ?_ ?_⟩
     ·rintro j v σ G6 ev ⟨K',MD,RA,rfl,Tf,k6,ad6,Px,M6⟩;obtain⟨a,ea',b,ea,rfl,WL,hb⟩:=Paired.at hap ev;obtain⟨Ih,h1,em,hw,YY⟩:=one a<|DO ea';have K1:=I.ok a.1 Ih h1;have a2q:=G.ech Ih em;have tka:=be ea';have ndt:(((Mk.ID ê r.1).take j).map (·.1)).Nodup:=by rw[FR];exact nda.sublist (List.take_sublist _ _)
      obtain⟨f1,f2,f3,_⟩:=Mk.LK (p:=p) (ê:=ê) r.1 ((Mk.ID ê r.1).take j) { Tm with R:=Mk.Ib p m ç Tm.R r (Mk.HZ p m ê Tm r) } ndt;have YS:=f3 a.1 λa' ha' z=>by
       obtain⟨j',Rf,ej'⟩:=GJ.mp ha';have g1:((Mk.ID ê r.1).map (·.1))[j']?=some a.1:=by rw[DN,DF<|by omega,ej'];exact congrArg some z
       have g2:((Mk.ID ê r.1).map (·.1))[j]?=some a.1:=by rw[DN,ea'];rfl
       have:=bR nda g1 g2;omega
      have hT7:((Mk.ID ê r.1).take<|j+1).foldl (Mk.Kh p ê r.1) { Tm with R:=Mk.Ib p m ç Tm.R r (Mk.HZ p m ê Tm r) }=Mk.Kh p ê r.1 (((Mk.ID ê r.1).take j).foldl (Mk.Kh p ê r.1) { Tm with R:=Mk.Ib p m ç Tm.R r (Mk.HZ p m ê Tm r) }) a:=by rw[tka,List.foldl_append];rfl
      generalize hT6:((Mk.ID ê r.1).take j).foldl (Mk.Kh p ê r.1) { Tm with R:=Mk.Ib p m ç Tm.R r (Mk.HZ p m ê Tm r) }=T6 at *
      have YS:T6.P.getD a.1 []=Tm.P.getD a.1 []:=YS;obtain⟨d,dx,lp,hd,ZW,WB⟩:=M6.ears a.1 ea WL;rw[YY]at hd;have ekc:ç[Ih.1]?=some (ç.getD Ih.1 []):=by rw[DG,DF a2q];rfl
      have R6:T6.R.getD Ih.1 []=Tm.R.getD Ih.1 []++[(r.1,Mk.newRow p m (ç.getD Ih.1 []) (Tm.R.getD Ih.1 []) r<|Mk.HZ p m ê Tm r)]:=by rw[f1];exact Mk.Lk ekc (by omega)
      have le6:=aJ sF Tf;refine⟨b,_,rfl,Kc.of<|le6 _ _ (k6.2 _ _<|k05.2 _ _ (toΓ _ _ hb)),rfl,_,_,rfl,_,_,rfl,_,[],rfl,rfl,?_⟩;refine⟨_,rfl,ea,dx,_,rfl,le6 _ _ ZW,rfl,_,rfl,_,rfl,_,rfl,grow F H G6,ea,fa,d,dx,lp,p,r.1,a.2.1,T6.P.getD a.1 [],T6.R.getD Ih.1 [],le6,rfl,ZW,(M6.rows Ih.1 d hd).dr,WB,hf.mono<|ak sF,by omega,O.p1,by rw[R6,DP];simp,by rw[YS,K1.len];exact hw,λy hy=>?_,by rw[YS,K1.len];exact mz,λl' G7 e7 hl'=>?_⟩
      ·rw[YS]at hy;exact⟨(K1.LW y hy).2,by rw[(K1.LW y hy).1];exact mz⟩
      rw[au Tf e7]at hl';have ea0:=eaN WL;have YO:=aQ (F0:=F) (H0:=H) e7;have hx7:=YO _ _ ZW;have k7:KT (grow F H G7) (grow F H<|upd G7 ea (qe CE dx d l')):=by rw[bd ea0];exact KT.put hx7 (λ_ z=>nomatch z) (λ_ z=>nomatch z)
      have k67:=(KT.of YO).trans k7;have nea:∀ {c ķ},grow F H G6 c=some (.dK ķ)->c≠ea:=λhc z=>by rw[z,ZW]at hc;cases hc
      have kep:∀ {c:Addr},c≠ea->grow F H (upd G7 ea<|qe CE dx d l') c=grow F H G7 c:=λhc=>by rw[bd ea0,ab hc]
      have M7:=M6.mono YO;have Xk:∀ {d' R'},IQ (grow F H G6) d' R'->IQ (grow F H<|upd G7 ea (qe CE dx d l')) d' R':=λh=>by obtain⟨ķ,hk,_⟩:=id h;exact (h.mono YO).kt k7 (kep<|nea hk)
      refine⟨_,_,_,rfl,aW (Tf.trans e7) ea0,k6.trans k67,(kep<|nea ad6).trans<|YO _ _ ad6,Xk Px,?_⟩;rw[hT7];refine⟨λc' d' Q3=>Xk<|M6.rows c' d' Q3,λe ea2 he=>?_⟩;have al:a.1<T6.P.length:=by rw[f2];show a.1<Tm.P.length;rw[I.pl];exact (DJ.mp h1).1
      by_cases ce:e=a.1
      ·subst ce;rw[WL]at he
       cases he;refine⟨d,dx,l',by rw[YY];exact hd,by rw[bd ea0,ag],?_⟩;show DR _ (tb<|(T6.P.set a.1<|Mk.moved p (T6.P.getD a.1 []) a.2.1 (Mk.lk (Mk.rowsOf ê T6 a.1) r.1)).getD a.1 []) _;rw[c7<|Gr al,Mk.Ku h1];exact yh k7 hl'
      ·obtain⟨d2,dx2,l2,hd2,g1,g2⟩:=M7.ears e ea2 he;refine⟨d2,dx2,l2,hd2,(kep λz=>ce<|bR end_ (z▸he) WL).trans g1,?_⟩;show DR _ (tb<|(T6.P.set a.1 _).getD e []) _;rw[DG,GF<|Ne.symm ce,<- DG];exact yh k7 g2
     ·rintro σ G6 ⟨K',MD,RA,rfl,Tf,k6,ad6,Px,M6⟩;rw[axl,Et]at M6;exact⟨_,_,_,_,_,_,_,_,rfl,Tf,k05.trans k6,ad6,Px,by rw[st];exact M6⟩
   ·rintro σ G1 ⟨o8,o9,ME,LI,LH,K',MD,RA,rfl,eG,kG,VU,ZJ,M⟩;rw[xl]at ZJ;have pk:=gi (p:=p) (m:=m) (ç:=ç) (ê:=ê) ord;refine⟨_,rfl,prG sF eG (So ZJ.dr) (.mk (f:=λr:Int×List Int=>r.1) (g:=λr=>rw r.2) ?_ (by rw[pk];exact G.nd)) λx H7 e7 hx7=>q x H7 (eG.trans e7) hx7⟩;have:=congrArg List.length pk;rw[DH,DH]at this;omega
end
theorem wC:∀ (ê:List Mk.IB)(k:Nat),(∀ Ih∈ê,Ih.2.flatten.length<=B)->((ê.zipIdx k).flatMap λx=>Mk.JR x.2 x.1.2).length<=ê.length * B
 | [],_,_=>by simp
 | x::l,k,h=>by have ih:=wC l (k+1) λy hy=>h y (by simp[hy]);have hx:=h x (by simp);rw[<- Mk.OF k x.2,DH]at hx;rw[List.zipIdx_cons,GX,DT,Eu,Nat.succ_mul];show (Mk.JR k x.2).length+_<=_;omega
theorem fZ:∀ {xs ys:Ξ},xs.Nodup->(∀ x∈xs,x∈ys)->xs.length<=ys.length
 | [],ys,_,_=>EE _
 | x::xs,ys,nd,h=>by have nd:=Ex.mp nd;have hx:=h x (by simp);have:=fZ (ys:=ys.erase x) nd.2 λy hy=>(Gd (λz:y=x=>nd.1 (by rw[<- z];exact hy))).mpr<|h y (by simp[hy]);rw[Gg hx]at this;have h1:0<ys.length:=GV hx;rw[Eu];omega
section
variable {S:NS}{h:Str}{ord:η}{R:List LT}{p:Int}{m:Nat}{ç:Θ}
theorem WN.SG (W:WN S h ord R):S.HM.length<=40:=by have:=W.ln.SJ;rw[<- W.ln.HM,DH]at this;exact this
theorem WN.Ro (W:WN S h ord R):(S.HM.map (·.1)).Nodup:=by have pk:=W.ln.HR.map (·.1);rw[DL]at pk;exact pk.nodup_iff.mp W.ln.fits.nd
theorem WN.XF (W:WN S h ord R):∀ x∈bF (bo S) S.names.length,x∈S.names:=λx hx=>by have:=t9 W.ln.RW _ (by rw[show (bo S).length=S.names.length from DH _];exact DV _) x hx;rwa [W.ln.P0]at this
theorem WN.XD (W:WN S h ord R)(pz:S.Ia.length<=100):l7 S (bF (bo S) S.names.length):=⟨rfl,W.ln.RW,W.ln.ends,by have:=W.SG;omega,by omega⟩
theorem WN.XR (W:WN S h ord R)(pz:S.Ia.length<=100):ya l7 S (bF (bo S) S.names.length):=⟨W.XD pz,W.XF,by have:=W.SG;omega,W.ln.fits⟩
theorem WN.wok (W:WN S h ord R)(pz:S.Ia.length<=20)(fo:Λ):R5 S fo 21:=by
 have sub:(aZ S.HM fo).Sublist S.HM:=by
  cases fo with
  | none=>exact List.Sublist.refl _
  | some ks=>exact Gh
 have nl:S.names.length<=20:=by unfold NS.names;rw[DH];exact pz
 have ol:=W.ln.len;have tl:=W.SG;have sl:=sub.length_le;have ix:∀ (i:Nat) z,ord[i]?=some z->ord.idxOf z=i:=λi z hz=>by have hm:=DO hz;have hl:=List.idxOf_lt_length_of_mem hm;exact bR W.ln.nd (by rw[DF hl,List.getElem_idxOf hl]) hz
 refine⟨⟨W.Ro.sublist<|sub.map _,⟨λz=>ord.idxOf z,λt ht=>?_,λz=>?_⟩,by omega,by omega⟩,λt ht=>W.ln.SF<|sub.subset ht,W.ln.Vg,by omega,by omega,by omega⟩
 ·obtain⟨u,v,uv,h1,h2⟩:=W.ln.QB<|sub.subset ht;show ord.idxOf t.2.1<ord.idxOf _;rw[ix _ _ h1,ix _ _ h2];exact uv
 ·have:=List.idxOf_le_length (a:=z) (l:=ord);show ord.idxOf z<21;omega
theorem WN.make (W:WN S h ord R)(hP:My.JK p=true)(hO:∀ ks∈ç,R5 S (some ks) N/\∀ g∈S.J8,∃ w,bx (aZ S.HM (some ks)) (some h) g N m=.inr w)(IX:((ç.length * S.J8.length:Nat):Int)<=p)(p1:p<=1000000)(pz:S.Ia.length<=100)(ez:ç.length * S.J8.length<=1000)(fz:ç.length<=1000)(mz:m<=1000):Ck S m p ç (bu S (some h) N m ç):=by
 have G:=W.QZ hP hO IX;have kt:∀ k∈(ai S).map (·.1),k∈S.HM.map (·.1):=λk hk=>by obtain⟨r,hr,rfl⟩:=DI.mp hk;obtain⟨t,ht,rfl⟩:=DI.mp<|W.ln.HR.mem_iff.mp hr;exact DS ht
 have el:=oY (bu S (some h) N m ç) 0 λy hy=>by obtain⟨ks,_,rfl⟩:=DI.mp hy;rw[DH]
 have fl:(bu S (some h) N m ç).length=ç.length:=DH _;have el:(Mk.HX<|bu S (some h) N m ç).length=ç.length * S.J8.length:=by unfold Mk.HX;rw[el,fl]
 have YR:=W.ln.IX;have lz:S.J8.length<=S.Ia.length:=by unfold NS.J8;rw[DH];exact Eh _ _
 refine⟨W.XD pz,W.XF,W.Ro,YR,λr hr=>⟨kt _<|DS hr,λks hk=>?_⟩,p1,fl,by rw[fl];exact fz,mz,G,?_,λbl hbl=>?_,by rw[el];exact ez⟩
 ·obtain⟨i,hi,ei⟩:=EA.mp hr;exact (W.ln.fits.ahead i r ks (by rw[DF hi,ei]) hk).1
 ·have:=wC (B:=64) _ 0 λIh he=>by
   have sub:∀ k∈Ih.2.flatten,k∈(ai S).map _:=λk hk=>by obtain⟨way,hw,hk⟩:=List.mem_flatten.mp hk;exact (G.SA Ih he way hw).subset hk
   have:=fZ (G.UC Ih he) sub;rw[DH]at this;omega
  refine Ei this ?_;omega
 ·obtain⟨ks,hk,rfl⟩:=DI.mp hbl;refine⟨by rw[DH];omega,λways hw=>?_⟩;obtain⟨g,hg,rfl⟩:=DI.mp hw;obtain⟨O,hW⟩:=hO ks hk;obtain⟨w,ew⟩:=hW g hg;obtain⟨MT,e1,e2,e3,e4⟩:=j0 W.KG O ew;have e:uD (bx (aZ S.HM<|some ks) (some h) g N m)=w:=by rw[ew];rfl
  rw[e,e1];refine⟨by rw[DH,e2];exact DV _,λway hw=>?_⟩;obtain⟨ws,QP,rfl⟩:=DI.mp hw;have sb:=W.whole (λt ht=>(cg ht).1)<|e3 ws QP;have sl:=sb.length_le;rw[DH]at sl;exact⟨by omega,λk hk=>kt k<|sb.subset hk⟩
theorem WN.told (W:WN S h ord R)(n:Nat)(x:J1)(hx:(ai S)[n]?=some x):jS (OL (·.1) (cB p m ç ê (ai S) (ai S).length)) x.1=some (x.1,Mk.HZ p m ê (Mk.stN p m ç ê (ai S) n) x):=by have hn:=(DJ.mp hx).1;have nd:((OL (·.1)<|cB p m ç ê _ (ai S).length).map _).Nodup:=(Jd.map _).nodup_iff.mpr (by rw[gi];exact W.ln.fits.nd);refine nQ nd (x.1,_) (Jd.mem_iff.mpr ?_);exact DI.mpr ⟨n,Eg.mpr hn,by rw[c7 hx]⟩
theorem WN.good (W:WN S h ord R)(hP:My.JK p=true){ê:List Mk.IB}(G:Mk.Ls p m ç ê (ai S))(mz:m<=1000):Nr m p (ai S) (OL (·.1) (cB p m ç ê (ai S) (ai S).length)):=by
 have pm:=Jd (f:=λr:Int×List Int=>r.1) (l:=cB p m ç ê (ai S) (ai S).length);have IX:=W.ln.IX;have kl:=congrArg List.length<|gi (p:=p) (m:=m) (ç:=ç) (ê:=ê) (ai S);rw[DH,DH]at kl;refine⟨λx hx=>?_,λr hr=>?_,?_⟩
 ·obtain⟨n,hn⟩:=List.getElem?_of_mem hx;refine⟨_,W.told n x hn,?_⟩;obtain⟨h1,h2,_⟩:=Mk.Qn<|Mk.ON (Mk.KJ G n (by have:=(DJ.mp hn).1;omega)) G hn;have e:Mk.HZ p m ê (Mk.stN p m ç ê (ai S) n) x=Mk.PY p (Mk.IC m x.2) (Mk.ID ê x.1) (Mk.shown p ê<|Mk.stN p m ç ê (ai S) n):=rfl;rw[e];obtain⟨i,hi,ei⟩:=EA.mp hx;have mw:((Mk.IC m x.2).length:Int)=wide m x.2/\(Mk.IC m x.2).length<=1000:=by
   cases e2:x.2 with
   | none=>
    have:(Mk.IC m none).length=m:=by show (Mk.starts m).length=m;unfold Mk.starts;simp
    rw[this];exact⟨rfl,mz⟩
   | some ks=>exact⟨rfl,(W.ln.fits.ahead i x ks (by rw[DF hi,ei]) e2).1⟩
  rw[<- h1]at mw;exact⟨mw.1,h2,mw.2⟩
 ·have:=DS (f:=λr:Int×List Int=>r.1)<|pm.mem_iff.mp hr;rwa [gi]at this
 ·rw[pm.length_eq];omega
theorem WN.wide (W:WN S h ord R)(hP:My.JK p=true)(p1:p<=1000000)(Uj:1<=m)(hm:m<=40)(pz:S.Ia.length<=20)(hw:∀ g∈S.J8,∃ w,bx (aZ S.HM (some [])) (some h) g 21 m=.inr w)(IX:(S.J8.length:Int)<=p)(SR:∀ g∈S.J8,g≠h):pL (dA c C (wF c C)) (dq c l7) [aI c S,.int m,.int p] (.bl true):=by
 have O:=W.wok pz<|some [];have hO:∀ ks∈[([]:Ξ)],R5 S _ 21/\∀ g∈S.J8,∃ w,bx (aZ _<|some ks) _ g 21 m=.inr w:=λks hk=>by rw[E5.mp hk];exact⟨O,hw⟩
 have lz:S.J8.length<=S.Ia.length:=by unfold NS.J8;rw[DH];exact Eh _ _
 have a2L:(([([]:Ξ)].length * S.J8.length:Nat))<=p:=by rw[EI,Nat.one_mul];exact IX
 have M:=W.make hP hO a2L p1 (by omega) (by simp;omega) (by simp) (by omega);refine W.RD (W.XR<|by omega) rfl hP p1 Uj (by omega) (by omega) (W.good hP M.QZ<|by omega) (by omega) O hw IX SR (λn x hx=>by unfold bD;rw[W.told n x hx];rfl) ?_;have e:[bS S 21 m []]=bu S (some h) 21 m [[]]:=by unfold bS bu;rw[W.Ji];rfl
 rw[e];exact .mk M
end
noncomputable def NT:η:=["h","abc","b","ca","d","ebb"]
noncomputable def MC:η:=["h","d","b","ebb","ca","abc"]
noncomputable def OP:Ξ:=[0,5,2,4,1,3]
noncomputable def QL (fi:Int)(k:Nat):Kd:=if k=0 then .house else if k=1\/gN fi k % 3=0 then .listener else .post
noncomputable def bW (fi:Int)(m:Nat):List (Str×Kd):=(List.range m).map λk=>(NT.getD k "",QL fi k)
structure R7 (fi:Int) (m:Nat) (S:NS) (R:List LT):Prop where
 Ia:S.Ia=bW fi m
 HM:S.HM.map (λt=>(t.1,t.2.1,t.2.2.1))=R
 up:∀ r∈R,∃ u v:Nat,u<v/\MC[u]?=some r.2.1/\MC[v]?=some r.2.2
 mem:∀ r∈R,r.2.1∈NT.take m/\r.2.2∈NT.take m
 key:R.map (·.1)=(List.range R.length).map λ(i:Nat)=>(i:Int)
 next:S.next=R.length
theorem vp:∀ m,m<=6->(List.range m).map (λk=>NT.getD k "")=NT.take m/\(NT.take m).Nodup/\∀ x∈NT.take m,x∈MC:=by decide
theorem vq:∀ k,k<6->jr (NT.getD k "")=true/\NT.getD k ""∉NT.take k/\(NT.getD k "").length<=1000/\(NT.getD k ""="h"->k=0)/\0<=OP.getD k 0/\MC[(OP.getD k 0).toNat]?=some (NT.getD k ""):=by decide +kernel
theorem oe:MC.Nodup:=by decide
section
variable {S:NS}
theorem ip (h:m<=6)(hp:S.Ia=bW fi m):S.names=NT.take m:=by unfold NS.names;rw[hp,<- (vp m h).1];unfold bW;rw[DL];rfl
theorem l6 (hp:S.Ia=bW fi m):S.Ia.length=m:=by rw[hp];unfold bW;rw[DH,Er]
theorem yE (S:NS):S.J8.length<=S.Ia.length:=by unfold NS.J8;rw[DH];exact Eh _ _
theorem zx (h:m<6):may ⟨bW fi m,[],0⟩ (NT.getD m "") (QL fi m)/\NS.put ⟨bW fi m,[],0⟩ (NT.getD m "") (QL fi m)=⟨bW fi (m+1),[],0⟩:=by
 obtain⟨a1,a2,a3,_⟩:=vq m h;have pl:=l6 (S:=⟨bW fi m,[],0⟩) rfl;have ll:=yE ⟨bW fi m,[],0⟩;refine⟨⟨a1,by rw[ip (by omega) rfl];exact a2,λgR=>?_,?_⟩,?_⟩
 ·obtain⟨z1,z2⟩:=gR;unfold QL at z1;by_cases c:m=0
  ·subst c;cases z2
  ·rw[if_neg c]at z1;split at z1 <;> cases z1
 ·unfold Dj;rw[DQ<|by omega,DQ<|by omega];simp
 ·unfold NS.put bW;rw[Hq,DP];rfl
theorem R7.IX (L:R7 fi m S R):S.HM.length=R.length:=by rw[<- L.HM,DH]
theorem R7.wn (L:R7 fi m S R)(m2:2<=m)(m6:m<=6)(rl:R.length<=10):WN S "h" MC R:=by
 obtain⟨n1,n2,n3⟩:=vp m m6;have nm:=ip m6 L.Ia;refine⟨⟨by rw[nm];exact n2,by rw[nm];exact n3,oe,rfl,L.HM,by rw[nm];exact L.mem,L.up,?_,by decide,by omega⟩,?_,?_,λt ht z=>?_,λt ht=>?_⟩
 ·rw[L.key,G9];exact List.pairwise_lt_range.imp λh=>Int.ofNat_lt.mpr h
 ·obtain⟨k,rfl⟩:∃ k,m=k+1:=⟨m - 1,by omega⟩
  unfold NS.Ji;rw[L.Ia];unfold bW;rw[List.range_succ_eq_map];rfl
 ·rw[nm];obtain⟨k,rfl⟩:∃ k,m=k+1:=⟨m - 1,by omega⟩
  exact E7
 ·obtain⟨u,v,uv,_,hv⟩:=L.up _<|L.HM▸DS ht;have hv:=hv.trans<|congrArg _ z;have:=bR oe hv<|show MC[0]?=some _ from rfl;omega
 ·have:t.1∈R.map (·.1):=DI.mpr ⟨_,L.HM▸DS ht,rfl⟩;rw[L.key]at this;obtain⟨i,_,e⟩:=DI.mp this;omega
theorem R7.SR (L:R7 fi m S R)(m6:m<=6):∀ g∈S.J8,g≠("h":Str):=λg hg z=>by
 obtain⟨p,h1,h2⟩:=DI.mp hg;obtain⟨h3,h4⟩:=DY.mp h1;rw[L.Ia]at h3;obtain⟨k,hk,rfl⟩:=DI.mp h3;have hk:=Eg.mp hk;have:=(vq k<|by omega).2.2.2.1<|h2.trans z;subst this
 cases h4
theorem R7.J5 (L:R7 fi m S R)(hy:MC[i]?=some y)(h:iY S.HM y z):∃ j:Nat,i<=j/\MC[j]?=some z:=by
 induction h with
 | refl=>exact⟨i,DV _,hy⟩
 | step ht _ ih=>
  obtain⟨j,ij,hj⟩:=ih;obtain⟨u,v,uv,hu,hv⟩:=L.up _<|L.HM▸DS ht;have:=bR oe hu hj;exact⟨v,by omega,hv⟩
theorem R7.QB (L:R7 fi m S R){u:Nat}(uv:u<v)(hx:MC[u]?=some x)(hy:MC[v]?=some y)(mx:x∈NT.take m)(my:y∈NT.take m)(m6:m<=6):
  R7 fi m (S.QB x y 1) (R++[(S.next,x,y)])/\¬ iY S.HM y x/\(∀ t∈S.HM,t.1<S.next)/\∀ p∈S.Ia,p.1=y->Sf p.2=true:=by
 refine⟨⟨L.Ia,?_,λr hr=>?_,λr hr=>?_,?_,?_⟩,λz=>?_,λt ht=>?_,λp hp z=>?_⟩
 ·unfold NS.QB;rw[DP,L.HM];rfl
 ·rcases Ea.mp hr with hr|hr
  ·exact L.up r hr
  ·rw[E5.mp hr];exact⟨u,v,uv,hx,hy⟩
 ·rcases Ea.mp hr with hr|hr
  ·exact L.mem r hr
  ·rw[E5.mp hr];exact⟨mx,my⟩
 ·rw[DP,L.key,DT,EI,Hq,DP,L.next];rfl
 ·show S.next+1=_;rw[L.next,DT];rfl
 ·obtain⟨j,h1,h2⟩:=L.J5 hy z;have:=bR oe hx h2;omega
 ·have:t.1∈R.map (·.1):=DI.mpr ⟨_,L.HM▸DS ht,rfl⟩;rw[L.key]at this;obtain⟨i,hi,e⟩:=DI.mp this;have:=Eg.mp hi;rw[L.next];omega
 ·rw[L.Ia]at hp;obtain⟨k,hk,rfl⟩:=DI.mp hp;unfold QL;by_cases c:k=0
  ·subst c;have hv:=hy.trans<|congrArg _ z.symm;have:=bR oe hv<|show MC[0]?=some _ from rfl;omega
  ·rw[if_neg c];split <;> rfl
end
theorem Ce (h:H d=none)(e:f' H G)(b:PJ d G G'):f' H G':=λa o ha=>b a o (aq ha h) (e _ _ ha)
theorem An (h1:H n=none)(h:H d=none)(e:f' H G)(b:DD n d G G'):f' H G':=λa o ha=>b a o (aq ha h1) (aq ha h) (e _ _ ha)
def O4 (G:Hp)(l:Addr)(R:List LT):Prop:=∃ xs,G l=some (.lst xs)/\Paired (λv (r:LT)=>∃ b,v=.ref b/\G b=some (.tup [.int r.1,.str r.2.1,.str r.2.2])) xs R
theorem O4.mono (e:f' G G')(h:O4 G l R):O4 G' l R:=let ⟨xs,a,b⟩:=h;⟨xs,e _ _ a,Paired.JD b λ_ _ gR=>(by obtain⟨x,y,z⟩:=gR;exact⟨x,y,e _ _ z⟩)⟩
theorem O4.a3c (N:IZ c G n dp dt S)(b:DD n dt G G')(h:O4 G l R):O4 G' l R:=by obtain⟨⟨dx,h1⟩,_,⟨kt,h3,_⟩,_⟩:=N;obtain⟨xs,a1,a2⟩:=h;exact⟨xs,b _ _ (cH a1 h1 λz=>nomatch z) (cH a1 h3 λz=>nomatch z) a1,Paired.JD a2 λ_ _ gR=>(by obtain⟨x,y,z⟩:=gR;exact⟨x,y,b _ _ (cH z h1 λz=>nomatch z) (cH z h3 λz=>nomatch z) z⟩)⟩
theorem O4.snoc (h:G l=some (.lst xs))(hp:Paired (λv (r:LT)=>∃ b,v=.ref b/\G b=some (.tup [.int r.1,.str r.2.1,.str r.2.2])) xs R)(hb:G b=some (.tup [.int r.1,.str r.2.1,.str r.2.2])):O4 (upd G l (.lst (xs++[.ref b]))) l (R++[r]):=
 ⟨_,ag,Paired.Mq (Paired.JD hp λ_ _ gR=>(by obtain⟨x,y,z⟩:=gR;exact⟨x,y,by rw[ab<|cH z h (λz=>nomatch z)];exact z⟩)) ⟨b,rfl,by rw[ab<|cH hb h (λz=>nomatch z)];exact hb⟩⟩
theorem IZ.a0N (N:IZ c G n dp dt S)(h:G l=some (.lst xs)):IZ c (upd G l o) n dp dt S:=by
 obtain⟨⟨dx,h1⟩,⟨kp,h2,p2⟩,⟨kt,h3,p3⟩,h4⟩:=N;have k:∀ {b:Addr}{u:HO},G b=some u->(∀ ys,u≠.lst ys)->upd G l o b=some u:=λhb hu=>by rw[ab<|cH hb h (hu _)];exact hb
 exact⟨⟨dx,k h1 λ_ z=>nomatch z⟩,⟨kp,k h2 (λ_ z=>nomatch z),Paired.JD p2 λ_ _ gR=>(by obtain⟨x,b,y,e,z⟩:=gR;exact⟨x,b,y,e,k z λ_ z=>nomatch z⟩)⟩,⟨kt,k h3 (λ_ z=>nomatch z),Paired.JD p3 λ_ _ gR=>(by obtain⟨x,b,e,z⟩:=gR;exact⟨x,b,e,k z λ_ z=>nomatch z⟩)⟩,h4⟩
theorem Vn:∀ p,p<6->∀ q,q<6->OP.getD p 0=OP.getD q 0->p=q:=by decide
theorem xF (h:O4 G l R):DR G (.lst (R.map bb)) (.ref l):=by obtain⟨xs,a1,a2⟩:=h;refine⟨l,xs,rfl,a1,jn a2 λv r _ gR=>(by obtain⟨b,e,hb⟩:=gR;exact⟨b,_,e,hb,_,_,rfl,rfl,_,_,rfl,rfl,_,_,rfl,rfl,rfl⟩)⟩
section
variable {c:Cl}
inductive sy (c:Cl) (vs:π) (H:Hp) (Q:VK) (E:XK):Prop
 |mk (F:Hp) (v:V) (fi:Int) (cs:Ξ):vs=[.int fi,v]->f' F H->DR F (rw cs) v->cs.length<=10->(∀ x H' m S R,f' H H'->DR H' (.tup [aI c S,.lst (R.map bb)]) x->2<=m->m<=6->R.length<=10->R7 fi m S R->Q x H')->sy c vs H Q E
inductive Ln1 (c:Cl) (H1:Hp) (fi:Int) (a Ln n dp dt:Addr) (i:Nat) (σ:St) (G:Hp):Prop
 |mk (o4:Ç):σ=[some (.int fi),some (.ref a),some (.ref Ln),some (.ref n),o4,none,none,none,none,none]->f' H1 G->IZ c G n dp dt ⟨bW fi (i+1),[],0⟩->Ln1 c H1 fi a Ln n dp dt i σ G
inductive Ln2 (c:Cl) (H1:Hp) (fi:Int) (m:Nat) (a Ln n dp dt tl lo:Addr) (i:Nat) (σ:St) (G:Hp):Prop
 |mk (o4 o7 o8 o9:Ç) (S:NS) (R:List LT):σ=[some (.int fi),some (.ref a),some (.ref Ln),some (.ref n),o4,some (.ref tl),some (.ref lo),o7,o8,o9]->f' H1 G->G lo=some (.lst (OP.map V.int))->IZ c G n dp dt S->O4 G tl R->R7 fi m S R->R.length<=i->Ln2 c H1 fi m a Ln n dp dt tl lo i σ G
noncomputable abbrev x6:Stmt:=top 94
theorem Qj:ae ["_law_first","_law_cells","_law_names","_law_net_here","_law_k","_law_ties","_law_order","_law_cell","_law_one","_law_other"] Ć (a8 x6):=IM
theorem D5 (F:Iy K "_law_net" "_law_net" x6 f fd)(T:Ar mg)(RZ:Dk P w K mg base 1 "Net" c.IU Þ (nv c))(JX:Df P w K mg base 1 "_law_mix" î (Pr (se gN)))(LC:Dm P w K mg base 4 c.IU "house" Ü (gX c .house))(JW:Dm P w K mg base 4 c.IU "listener" Ü (gX c .listener))(Mm:Dm P w K mg base 4 c.IU "post" Ü (gX c .post))(Ml:Dmd P w K mg base 3 c.IU "tie" ó [.int 1] (sv c)):HP P w K mg base Ik 6 f fd Ć (sy c):=by
 refine F.k Qj λHU A outer s H vs Q E hr h=>?_
 ·obtain⟨F,v,fi,cs,rfl,sF,⟨a,us,rfl,ha,SX⟩,hcs,q⟩:=h;rw[ju SX]at ha;have ha:=sF _ _ ha;have ND:=Qj.nd;refine⟨_,(aj (pS 2 ND<|Uv (d7<|da (dC bX) (da (dC bX)<|da (dC bX) (da (dC bX)<|da (dC bX) (da (dC bX) HS)))).p Uu (Ut<|Qw (dC aa) (dO bK NB (Đ 0)<|dC aa)))
   (aj (pS 3 ND<|zA RZ hr.m rfl)
   (aj (aE<|bE (pv 3) LC hr.m (a9 (pI (oP K) (pv 2) aa) D'))
   (aj (bV E1 rfl (qw rfl T.Ir<|a9 aa (a9 (bQ (Vs K) rfl T.IH boot_len<|a9 (pv 2) D') D')) (pN 4 ND)
   (ar (nV (PW.pt<|dOr (dT bf cF (Đ 4)<|dC aa) (sV<|dT bf cF (dO bK NB (dF JX hr.m rfl<|da (Đ 0) (da (Đ 4) HS))<|dC aa) (dC aa)))
    (ar<|aE (bE (pv 3) JW hr.m<|a9 (pI (oP K) (pv 2)<|pv 4) D'))
    (ar<|aE (bE (pv 3) Mm hr.m<|a9 (pI (oP K) (pv 2)<|pv 4) D')))))
   (aj (pS 5 ND<|gj D')
   (aj (pS 6 ND (d7<|da (dC aa) (da (dC aa)<|da (dC aa) (da (dC aa)<|da (dC aa) (da (dC aa) HS)))).p)
   (aj (bV E1 rfl (t6 K<|pv 1) (pN 7 ND)
   (aj (pS 8 ND<|dO bK NB (dF JX hr.m rfl<|da (Đ 7) (da (dC aa) HS)) (dB b5 aG rfl T.IH boot_len<|da (Đ 2) HS))
   (aj (pS 9 ND<|dO bK NB (dF JX hr.m rfl<|da (Đ 7) (da (dC aa) HS)) (dB b5 aG rfl T.IH boot_len<|da (Đ 2) HS))
   (aj (nV (dT qF gr (dS (ao hr) (Đ 6)<|Đ 8)<|dS (ao hr) (Đ 6) (Đ 9))
    (ar<|UZ (i:=8) (j:=9) rfl ND rfl rfl (by decide) rfl rfl (a9 (pv 9)<|a9 (pv 8) D') rfl)
    Jb)
   (ar (nV (dT oh xt (Đ 8)<|Đ 9)
    (ar<|aE (Pz K Ek Ep Eo aO (pv 5)<|a9 (eM<|a9 (B5 (pv 3) Ml hr.m<|a9 (pI (oP K) (pv 2)<|pv 8) (a9 (pI (oP K) (pv 2)<|pv 9) D')) (a9 (pI (oP K) (pv 2)<|pv 8)<|a9 (pI (oP K) (pv 2)<|pv 9) D')) D'))
    Jb))))))
   (ar<|bJ (eM<|a9 (pv 3) (a9 (pv 5) D')))))))))),?_⟩
  obtain⟨m,em,m2,m6⟩:∃ m:Nat,2+fi % 5=(m:Int)/\2<=m/\m<=6:=by have b1:=EM fi (show (5:Int)≠0 by decide);have b2:=EC fi (show (0:Int)<5 by decide);exact⟨(2+fi % 5).toNat,by omega,by omega,by omega⟩
  refine tP.go (F:=emp) (ε:=[some<|.int fi]) (ZE d6 rfl) (d:=bI<|NT.take m) ⟨⟨⟨rfl,rfl,rfl,rfl,rfl,rfl,rfl⟩,by simp,rfl⟩,.lst,rfl,⟨⟨rfl,⟨rfl,rfl,⟨by decide⟩⟩,.i⟩⟩,by rw[em,cR];exact congrArg D.lst FR⟩ λx H1 e1 _ hx=>?_;obtain⟨Ln,ls,rfl,Rh,Uk⟩:=hx;rw[sr Uk]at Rh;have Rh:=lA _ _ Rh;have Vr:(NT.take m).length=m:=by rw[E4];show min m 6=m;omega
  have PC:∀ {k:Nat},k<m->O3 ((NT.take m).map V.str) (k:Int)=some (.str<|NT.getD k ""):=λ{k} hk=>kz (by rw[DN,EK hk,DG,DF (show k<NT.length from by show k<6;omega)];rfl)
  have dN:DR (zD Ln<|.lst ((NT.take m).map V.str)) (bI<|NT.take m) (.ref Ln):=⟨Ln,_,rfl,if_pos rfl,kq λ_ _=>rfl⟩
  intro n dx hn hdx nd;refine⟨n,dx,rfl,ag,λdp dt H2 p1 p2 p3 b1 hi hp ht=>?_⟩;have x1:dp≠n:=λz=>by rw[z,ag]at p1;cases p1
  have x2:dt≠n:=λz=>by rw[z,ag]at p2;cases p2
  have p1:H1 dp=none:=by
   rw[ab x1]at p1;by_cases z:dp=dx
   ·rw[z];exact hdx
   ·rwa [ab z]at p1
  have p2:H1 dt=none:=by
   rw[ab x2]at p2;by_cases z:dt=dx
   ·rw[z];exact hdx
   ·rwa [ab z]at p2
  have e2:f' H1 H2:=λa o ha=>b1 a o (aq ha hn) (by rw[ab<|aq ha hn,ab<|aq ha hdx];exact ha);have N2:IZ c H2 n dp dt ⟨bW fi 0,[],0⟩:=⟨⟨dx,hi⟩,⟨[],hp,.nil⟩,⟨[],ht,.nil⟩,p3⟩
  have put:∀ (k:Nat)(kd:Kd)(G:Hp),QL fi k=kd->k<m->f' H1 G->IZ c G n dp dt ⟨bW fi k,[],0⟩->∀ {Q:VK},(∀ G',f' H1 G'->IZ c G' n dp dt ⟨bW fi<|k+1,[],0⟩->Q .non G')->gX c kd [.ref n,.str<|NT.getD k ""] G Q E0:=λk kd G ek hk eG NG Q q=>by obtain⟨h1,h2⟩:=zx (fi:=fi) (m:=k) (by omega);rw[ek]at h1 h2;refine⟨n,dp,dt,_,_,rfl,NG,(vq k<|by omega).2.2.1,?_,h1,λG' b N'=>q G' (Ce p1 eG b)<|h2▸N'⟩;rw[l6 (fi:=fi) (m:=k) rfl];omega
  refine⟨rfl,?_⟩;refine⟨_,rfl,n,dx,_,rfl,hi,rfl,_,rfl,Ln,_,_,_,rfl,rfl,Il.of<|e2 _ _ Rh,PC (k:=0)<|by omega,put 0 .house H2 rfl (by omega) e2 N2 λG1 eG1 N1=>?_⟩;have tn:(((((NT.take m).map V.str).length:Int)) - 1).toNat=m - 1:=by rw[DH,Vr];omega
  refine⟨_,rfl,Ln,_,rfl,.inl<|Il.of (eG1 _ _ Rh),1,_,rfl,⟨by decide,by decide,by omega,by rw[DH,Vr];omega⟩,?_⟩;rw[tn];refine rq (lo:=1) (n:=m - 1) (Ln1 c H1 fi a Ln n dp dt) ⟨none,rfl,eG1,N1⟩ ?_ ?_
  ·rintro i σ G him ⟨o4,rfl,eG,NG⟩;have ek:(1:Int)+(i:Int)=((i+1:Nat):Int):=by omega
   rw[ek];have r1:=eq_int (ε:=[some<|.int fi,none,none,none,some<|.int (i+1:Nat)]) (ra:=rV 4) (rb:=rC<|.int 1) rfl rfl;have r2:=eq_int (ε:=[some<|.int fi,none,none,none,some<|.int (i+1:Nat)]) (ra:=rO (fI (λ_ j=>0<j) λi j=>PV<|.int (i % j)) (rF (se gN)<|rA (rV 0) (rA (rV 4) Of))<|rC (.int 3)) (rb:=rC<|.int 0) (i:=gN fi (i+1:Nat) % 3) ⟨⟨⟨rfl,rfl,rfl⟩,⟨by omega,by omega⟩⟩,rfl,⟨by decide⟩⟩ rfl;obtain⟨dxG,hNG⟩:=id NG.ins;have S4:Sd emp [some<|.int fi,some<|.ref a,some<|.ref Ln,some<|.ref n,some<|.int (i+1:Nat),none,none,none,none,none] G [some<|.int fi,none,none,none,some<|.int (i+1:Nat)]:=KI rfl<|Jh (Jh<|Jh (KI rfl<|Rb d6));by_cases c1:i=0
   ·rw[DM<|by omega]at r1;have kl:QL fi (i+1)=.listener:=by unfold QL;rw[if_neg<|by omega,if_pos<|.inl (by omega)]
    exact⟨_,λσ' G' h=>h,_,_,true,S4,.t r1,λG' e=>BF ⟨_,rfl,n,dxG,_,rfl,e _ _ hNG,rfl,_,rfl,_,rfl,Ln,_,_,_,rfl,rfl,Il.of<|e _ _ (eG _ _ Rh),PC (k:=i+1)<|by omega,put (i+1) .listener G' kl (by omega) (eG.trans e) (NG.mono e) λG2 e2 N2=>⟨_,rfl,e2,N2⟩⟩⟩
   ·rw[DQ<|by omega]at r1;by_cases c2:gN fi (i+1:Nat) % 3=0
    ·rw[DM c2]at r2;have kl:QL fi (i+1)=.listener:=by unfold QL;rw[if_neg<|by omega,if_pos<|.inr c2]
     exact⟨_,λσ' G' h=>h,_,_,true,S4,.f r1 r2,λG' e=>BF ⟨_,rfl,n,dxG,_,rfl,e _ _ hNG,rfl,_,rfl,_,rfl,Ln,_,_,_,rfl,rfl,Il.of<|e _ _ (eG _ _ Rh),PC (k:=i+1)<|by omega,put (i+1) .listener G' kl (by omega) (eG.trans e) (NG.mono e) λG2 e2 N2=>⟨_,rfl,e2,N2⟩⟩⟩
    ·rw[DQ c2]at r2;have kl:QL fi (i+1)=.post:=by unfold QL;rw[if_neg<|by omega,if_neg λz=>z.elim (λy=>c1<|by omega) c2]
     exact⟨_,λσ' G' h=>h,_,_,false,S4,.f r1 r2,λG' e=>vM ⟨_,rfl,n,dxG,_,rfl,e _ _ hNG,rfl,_,rfl,_,rfl,Ln,_,_,_,rfl,rfl,Il.of<|e _ _ (eG _ _ Rh),PC (k:=i+1)<|by omega,put (i+1) .post G' kl (by omega) (eG.trans e) (NG.mono e) λG2 e2 N2=>⟨_,rfl,e2,N2⟩⟩⟩
  ·rintro σ G ⟨o4,rfl,eG,NG⟩;rw[show m - 1+1=m by omega]at NG;refine⟨(by show 0<=sizeLine;decide),λtl G2 N5 VX Yc=>?_⟩;refine tP.go (F:=emp) (ε:=[]) (Rb d6) (d:=rw OP) ⟨⟨rfl,rfl,rfl,rfl,rfl,rfl,rfl⟩,by simp,rfl⟩ λx G3 Sn _ hx=>?_;obtain⟨lo,us,rfl,T5,SX⟩:=hx;rw[ju SX]at T5;obtain⟨lo0,T5⟩:=iM T5;have a1D:lo≠tl:=(aq Yc lo0).symm;have Z0:=eG.trans<|N5.trans Sn;have tl1:H1 tl=none:=eG.free VX;have mem:∀ r:Int,∃ u:Nat,r % (m:Int)=(u:Int)/\u<m:=λr=>by obtain⟨u,eu⟩:=Int.eq_ofNat_of_zero_le<|EM r (show (m:Int)≠0 by omega);have:=EC r (show (0:Int)<m by omega);exact⟨u,eu,by omega⟩
   have l1:=M0.m (g:=D.str) (x:=NT.take m);rw[Vr]at l1;have ZT:∀ {k:Nat},k<m->NT.getD k ""∈NT.take m:=λ{k} hk=>DO (i:=k) (by rw[EK hk,DG,DF (show k<NT.length from by show k<6;omega)];rfl)
   refine⟨_,rfl,a,rfl,⟨_,Il.of<|Z0 _ _ (e1 _ _ ha)⟩,fV (K:=K) (xs:=cs.map V.int) (Ln2 c H1 fi m a Ln n dp dt tl lo)
    ⟨_,_,_,_,_,[],rfl,Z0,T5,NG.mono<|N5.trans Sn,⟨[],Sn _ _ Yc,.nil⟩,⟨rfl,rfl,(λr h=>nomatch h),(λr h=>nomatch h),rfl,rfl⟩,DV _⟩ (λi σ G _ h=>let ⟨_,_,_,_,_,_,_,e,_,_,_,_,_⟩:=h;Il.of<|e _ _ (e1 _ _ ha)) ?_ ?_⟩
   ·rintro i v σ G ev ⟨o4,o7,o8,o9,S,R,rfl,eG,T4,NG,TG,L,rl⟩;obtain⟨cell,ec,rfl⟩:=xy ev;have i10:i<10:=by have:=(DJ.mp ec).1;omega
    obtain⟨u,eu,hu⟩:=mem<|gN cell 1;obtain⟨v,ev',hv⟩:=mem<|gN cell 2;refine tP.go (F:=zD Ln<|.lst ((NT.take m).map V.str)) (ε:=[none,none,some<|bI (NT.take m),none,none,none,none,some<|.int cell]) (Jh<|Jh (KI dN<|Jh (Jh<|Jh (Jh<|KI rfl (Rb<|fT (eG _ _ Rh)))))) (d:=.int<|gN cell 1 % (m:Int)) ⟨⟨⟨rfl,rfl,rfl⟩,⟨by decide,by decide⟩⟩,⟨⟨rfl,rfl⟩,l1⟩,⟨by omega⟩⟩ λx Ga ea _ hx=>?_
    cases hx;refine tP.go (F:=zD Ln<|.lst ((NT.take m).map V.str)) (ε:=[none,none,some<|bI (NT.take m),none,none,none,none,some<|.int cell]) (Jh<|Jh (KI dN<|Jh (Jh<|Jh (Jh<|KI rfl (Rb<|fT (ea _ _<|eG _ _ Rh)))))) (d:=.int<|gN cell 2 % (m:Int)) ⟨⟨⟨rfl,rfl,rfl⟩,⟨by decide,by decide⟩⟩,⟨⟨rfl,rfl⟩,l1⟩,⟨by omega⟩⟩ λx Gb eb _ hx=>?_
    cases hx;rw[eu,ev'];have WT:=ea.trans eb;have a2e:=WT _ _ T4;refine⟨λσ G'=>(∃ p q:Nat,p<m/\q<m/\OP.getD p 0<=OP.getD q 0/\σ=[some<|.int fi,some<|.ref a,some<|.ref Ln,some<|.ref n,o4,some<|.ref tl,some<|.ref lo,some<|.int cell,some<|.int (p:Int),some<|.int (q:Int)])/\f' Gb G',?_,?_⟩
    case refine_2=>
     have ll:OP.length=6:=rfl;have r1:=gt_int (ε:=[none,none,none,none,none,none,some<|rw OP,none,some<|.int u,some<|.int v]) (ra:=rO Sub (rV 6)<|rV 8) (rb:=rO Sub (rV 6)<|rV 9) ⟨rfl,rfl,.l .lst<|dm (by omega)⟩ ⟨rfl,rfl,.l .lst<|dm (by omega)⟩;refine⟨zD lo<|.lst (OP.map V.int),[none,none,none,none,none,none,some<|rw OP,none,some<|.int u,some<|.int v],_,Jh<|Jh (Jh<|Jh (Jh<|Jh (KI ⟨lo,_,rfl,if_pos rfl,r9 _⟩<|Jh (KI rfl<|KI rfl (Rb<|fT a2e))))),r1,λG' e=>mH (λg=>?_) (λg=>?_)⟩
     ·have g:=DZ g;exact⟨_,rfl,_,rfl,_,_,rfl,⟨v,u,hv,hu,by omega,rfl⟩,e⟩
     ·have g:¬ OP.getD v 0<OP.getD u 0:=λz=>g<|DM z;exact⟨⟨u,v,hu,hv,by omega,rfl⟩,e⟩
    rintro σ G' ⟨⟨p,q',hp,hq,hle,rfl⟩,eB⟩;have eB:=WT.trans eB;have r3:=ne_int (ε:=[none,none,none,none,none,none,none,none,some<|.int p,some<|.int q']) (ra:=rV 8) (rb:=rV 9) rfl rfl;refine⟨_,λσ' G' h=>h,emp,[none,none,none,none,none,none,none,none,some<|.int p,some<|.int q'],_,Jh<|Jh (Jh<|Jh (Jh<|Jh (Jh<|Jh (KI rfl<|KI rfl (Rb d6))))),r3,λG8 e8=>?_⟩;have W7:=eB.trans e8;have N8:=NG.mono W7;have T8:=TG.mono W7;refine mH (λg=>?_) λg=>⟨_,_,_,_,S,R,rfl,eG.trans W7,W7 _ _ T4,N8,T8,L,by omega⟩;have ne:p≠q':=λz=>DZ g (by rw[z]);obtain⟨_,_,_,_,lp,op⟩:=vq p (by omega);obtain⟨_,_,_,_,lq,oq⟩:=vq q' (by omega);have Kb:(OP.getD p 0).toNat<(OP.getD q' 0).toNat:=by have:OP.getD p 0≠OP.getD q' 0:=λz=>ne<|Vn p (by omega) q' (by omega) z;omega
    obtain⟨L2,nl,a0P,thr⟩:=L.QB Kb op oq (ZT hp) (ZT hq) m6;obtain⟨dx8,hN8⟩:=id N8.ins;obtain⟨ts8,a1W,_⟩:=id T8;have YK:=(eG.trans W7) _ _ Rh;have nm:=ip m6 L.Ia;have tl8:=L.IX;refine⟨_,rfl,.inl ⟨rfl,_,Il.of a1W⟩,_,rfl,n,dx8,_,rfl,hN8,rfl,_,rfl,_,rfl,Ln,_,_,_,rfl,rfl,Il.of YK,PC hp,_,rfl,_,rfl,Ln,_,_,_,rfl,rfl,Il.of YK,PC hq,?_⟩;refine⟨n,dp,dt,S,_,_,1,rfl,N8,by rw[nm];exact ZT hp,by rw[nm];exact ZT hq,a0P,thr,nl,by decide,by decide,by omega,λH9 b9 N9=>?_⟩;have T9:=T8.a3c N8 b9;have e9:=An hn p2 (eG.trans W7) b9;have sL9:=Il.of (K:=K)<|e9 _ _ Rh;have lo9:H9 lo=some (.lst<|OP.map V.int):=by obtain⟨kt,ht8,_⟩:=id N8.HM;have:=W7 _ _ T4;exact b9 _ _ (cH this hN8 λz=>nomatch z) (cH this ht8 λz=>nomatch z) this
    refine⟨_,rfl,_,rfl,Ln,_,_,_,rfl,rfl,sL9,PC hp,_,rfl,_,rfl,Ln,_,_,_,rfl,rfl,sL9,PC hq,(by show 3<=sizeLine;decide),λT' H10 e10 h10 hT=>?_⟩;obtain⟨X5,RH,Yn⟩:=T9.mono e10;have Ot:X5.length=R.length:=Paired.length Yn;refine⟨tl,X5,_,rfl,rfl,RH,(by rw[Ot];have:sizeLine=2 ^ 24:=rfl;omega),_,_,_,_,_,_,rfl,aW (e9.trans e10) tl1,by rw[ab a1D];exact e10 _ _ lo9,(N9.mono e10).a0N RH,O4.snoc RH Yn hT,L2,by rw[DT,EI];omega⟩
   ·rintro σ G ⟨o4,o7,o8,o9,S,R,rfl,eG,T4,NG,TG,L,rl⟩;rw[DH]at rl;refine⟨_,rfl,_,rfl,(by show 2<=sizeLine;decide),λt G2 N5 VX ht=>q _ G2 m S R (e1.trans<|eG.trans N5) ⟨t,_,rfl,ht,_,_,rfl,(NG.mono N5).dr,_,_,rfl,xF<|TG.mono N5,rfl⟩ m2 m6 (by omega) L⟩
end
theorem nW:∀ (us:List LT)(b:List aU×Nat),∃ as:À,as.length=us.length/\(us.foldl (lO g ts m p) b).1=b.1++List.zipWith (λt a=>(t.1,pV g p a (cY ts m t.2.1))) us as
 | [],b=>⟨[],rfl,by simp⟩
 | t::us,b=>by obtain⟨as,h1,h2⟩:=nW us<|lO g ts m p b t;refine⟨b.2::as,by simp[h1],?_⟩;rw[Gw,h2,List.zipWith_cons_cons];unfold lO;simp
theorem WN.YM {m:Nat}(W:WN S "h" ord R)(hp:0<p)(hm:m<=100):Nr m p (ai S) (eL g R m p R).1:=by
 obtain⟨as,al,hr⟩:=nW R ([],0);rw[EW]at hr;have hr:(eL g R m p R).1=_:=hr;have keys:(eL g R m p R).1.map (·.1)=R.map (·.1):=by
  rw[hr,List.map_zipWith];refine GB λj=>?_;rw[Fm,DN];by_cases c:j<R.length
  ·rw[DF c,DF<|by omega];rfl
  ·rw[Ed<|by omega];rfl
 have nd:((eL g R m p R).1.map (·.1)).Nodup:=by rw[keys];exact W.ln.asc.imp λz=>Int.ne_of_lt z
 have rl:=W.ln.SJ;have kl:=congrArg List.length keys;rw[DH,DH]at kl;have pm:=W.ln.HR;refine⟨λx hx=>?_,λr h=>?_,by omega⟩
 ·obtain⟨t,ht,rfl⟩:=DI.mp<|pm.mem_iff.mp hx;have hR:=W.ln.HM▸DS ht;obtain⟨j,hj,ej⟩:=EA.mp hR;have KG:(t.1,pV g p (as[j]'(by omega))<|cY R m t.2.1)∈(eL g R m p R).1:=by rw[hr];refine DO (i:=j) ?_;rw[Fm,DF hj,DF<|by omega,ej]
  refine⟨_,nQ nd _ KG,?_,λz hz=>?_,?_⟩
  ·unfold pV cY bn;rw[DH,Er,W.Ji];by_cases c:t.2.1="h"
   ·rw[if_pos c,if_pos<|by rw[c]];rfl
   ·rw[if_neg c,if_neg λz=>c (Option.some.inj z).symm];show _=((S.into _).length:Int)
    rw[W.ln.into];unfold yL;rw[DH]
  ·obtain⟨k,_,rfl⟩:=DI.mp hz;exact⟨EM _<|by omega,EC _ hp⟩
  ·unfold pV cY;rw[DH,Er];have:=Eh (λr:LT=>decide (r.2.2=t.2.1)) R;have h2:(R.filter λr:LT=>decide (r.2.2=t.2.1)).length<=1000:=by omega
   by_cases c:t.2.1="h"
   ·rw[if_pos c];omega
   ·rw[if_neg c];exact h2
 ·have:=DS (f:=λr:aU=>r.1) h;rw[keys]at this;exact W.ln.keys.mem_iff.mpr this
theorem BX (ns:Ξ)(lo hi:Ó):∃ cs:Ξ,qf (ns.map V.int) lo hi=cs.map V.int:=by unfold qf;rw[<- He,<- FR];exact⟨_,rfl⟩
theorem Dr (xs:π):(qf xs (some 3) (some 13)).length<=10:=by unfold qf;rw[show (some<|3)=some ((3:Nat):Int) from rfl,show (some<|13)=some ((13:Nat):Int) from rfl,HT.NA,HT.NA,E4];omega
noncomputable def zOf:Option D->Sl
 | none=>.un
 | some d=>.fz d
theorem Sd.ss (S:Sd F σ H ε):Ss F H F σ H (ε.map zOf):=by
 have old:∀ {i:Nat}{s:Sl},_[i]?=some s->∃ o,ε[i]?=some o/\zOf o=s:=λq=>by rw[DN]at q;exact EG.mp q
 refine⟨f'.refl _,S.le,f'.refl _,ak S.le,by simpa using S.len,λi d q=>?_,λi d q=>?_,λi j c d a n q=>?_⟩;all_goals
  obtain⟨o,h1,h2⟩:=old q
  cases o with
  | none=>cases h2
  | some d'=>cases h2 <;> exact S.rd i _ h1
theorem YV {J:Ù}(h1:rt (ε.map Sl.a) true)(h2:∃ ε1,rx ε (.nx ε1)/\∃ ε2,r2 ε1 (.nx ε2)/\J ε2):∃ ε2,nS (ZI rt rx ry) r2 ε (.nx ε2)/\J ε2:=let ⟨_,a,ε2,b,c⟩:=h2;⟨ε2,.nx (.t h1 a) b,c⟩
theorem uY:∀ p:Nat,p=2\/p=3\/p=5->My.JK p=true:=by rintro p (rfl|rfl|rfl) <;> exact My.SV (by decide +kernel) (by decide)
theorem a1l (h:PF X ss r):N6 X ss (λE σ H=>∃ F0 H0,tQ F0 H0 r E σ H):=λñ s σ H D I gR=>by obtain⟨F0,H0,q⟩:=gR;exact h F0 H0 _ s σ H D I q
section
variable {K:Ψ}
inductive nA (K:Ψ) (vs:π) (H:Hp) (Q:VK) (E:XK):Prop
 |mk (a:Addr) (ns:Ξ):vs=[.ref a]->Il K H a (ns.map V.int)->(∀ H',Q (.bl true) H')->nA K vs H Q E
noncomputable abbrev AN:Stmt:=top 100
theorem Rv:ae ["_law_script","_law_first","_law_second","_law_third","_law_net_here","_law_ties","_law_many","_law_prime","_law_fallen","_law_narrow_here","_law_name","_law_word","_law_told","_law_turn","_law_plan_here"] ["_law_script"] (a8 AN):=IM
theorem Vb (F:Iy K "law" "law" AN f fd)(T:Ar mg)(JY:Df P w K mg base 1 "_law_cell_at" Ā (gZ K))(Qd:Df P w K mg base 6 "_law_net" Ć (sy c))(JX:Df P w K mg base 1 "_law_mix" î (Pr (se gN)))(HN:Dm P w K mg base 2 c.IU "listeners" Þ (Pr (bB c)))(Na:Df P w K mg base 4 "ways" ä (Pr (KC c)))(P4:Sz P w K mg base 4 "ways" ä [.non] (Pr (KC c))/\∀ F,Ij F [.non] [.non])(P7:Df P w K mg base 2 "_law_plan" ë (Pr (y9 gN)))(Ni:Df P w K mg base 9 "_law_narrow" â (Pr (kJ c (dq c l7) (wE c l7))))(P6:Df P w K mg base 9 "_law_wide" í (Pr (pL (dA c C (wF c C)) (dq c l7)))):HP P w K mg base Ik 10 f fd ["_law_script"] (nA K):=by
 refine F.k Rv λHU A outer s H vs Q E hr h=>?_
 ·obtain⟨a,ns,rfl,hS,q⟩:=h;have ND:=Rv.nd;refine⟨_,(aj (pS 1 ND<|b7 JY hr.m rfl (a9 (pv 0)<|a9 aa D')) (aj (pS 2 ND<|b7 JY hr.m rfl (a9 (pv 0)<|a9 aa D')) (aj (pS 3 ND<|b7 JY hr.m rfl (a9 (pv 0)<|a9 aa D')) (aj (sY (b7 Qd hr.m rfl<|a9 (pv 1) (a9 (uZ (Xi K) (pv 0) (sZ aa)<|sZ aa) D'))<|cr K rfl (af (pN 4 ND)<|af (pN 5 ND) aD))
   (a1l (qC (qS (pS 6 ND<|Qw (dC aa) (dO bK NB (dO eQ NB (Đ 1)<|dC aa)<|dC aa)) λ_ _ _ h=>h)
 (qC (qS (pS 7 ND<|dS (ao hr) (d7<|da (dC aa) (da (dC aa)<|da (dC aa) HS)).p (dO bK NB (dO eQ NB (Đ 1)<|dC aa)<|dC aa)) λ_ _ _ h=>h)
 (qC (qI (PW.pt<|Ag (dT bf cF (Đ 6)<|dC aa) (gf<|dT bf cF (Đ 7) (dC aa)))
  (q1<|qS (pS 7 ND<|dC aa) (λ_ _ _ h=>h))
  q0)
 (qC (SM (n:=0) (aP (i:=8) ND rfl rfl rfl (cS 1 [3] ["_law_row","_law_third"]) (ax<|Đ 5)
  (λ_ _ _ _ _=>pC 0)
  (λ_ _ _ _ _=>c6<|dT bf cF (dO bK NB (dF JX hr.m rfl<|da (Đ 1) (da (dS (ao hr) (Đ 0)<|dC aa) HS))<|dC aa) (dC aa))
  (λ_ _ _ _ _=>dS (ao hr) (Đ 0)<|dC aa)) rfl)
 (qC (qS (pS 9 ND<|dC cG) λ_ _ _ h=>h)
 (qC (PR E1 rfl (ax<|gO (Đ 4) HN hr.m) (pN 10 ND) (aN 10)
  (qC (qT (sY (dF Na hr.m rfl<|da (Đ 4) (da (Đ 10)<|da (Đ 6) (da (Sv fW (cU rfl) rfl T.Ll boot_list<|da (Đ 8) HS) HS)))<|cr K rfl (af (pN 11 ND)<|af (pN 12 ND) aD))<|fY K [11,12])
 (qC (qI (dT bf cF (Đ 11)<|dC bX)
  (q1 (qL E1 rfl (QN rfl T.Ir<|da (dC aa) HS) (pN 13 ND) (aN 13)
  (qC (qS (pS 14 ND<|dF P7 hr.m rfl (da (Đ 5)<|da (Đ 6) (da (Đ 7)<|da (Qw (Đ 2)<|dO cC NB (dC aa) (Đ 13)) HS))) λ_ _ _ h=>h)
 (q1 (qI (Af<|dV (cf<|dF Ni hr.m rfl (da (Đ 4)<|da (Đ 14) (da (Đ 6)<|da (Đ 7) (da (Đ 8)<|da (mM<|da (Đ 10) (da (Đ 12) HS)) HS)))))
  (q1<|qR (dC cG))
  q0)))))
  q0)
 (q1<|qS (pS 9 ND<|Z9 (Đ 9) (jk<|dM bf cF (dS (ao hr) (dFd P4 hr.m rfl<|da (Đ 4) (da (Đ 10)<|da (Đ 6) HS))<|dC aa) (dC bX))) (λ_ _ _ h=>h)))))
 (qC (qI (PW.pt<|dOr (dV<|cf (Đ 9)) (sV<|dT lQ gr (Đ 7) (dB b5 aG rfl T.IH boot_len<|da (gO (Đ 4) HN hr.m) HS)))
  (q1<|qR (dC cG))
  q0)
 (q1<|qR (dF P6 hr.m rfl<|da (Đ 4) (da (Đ 6)<|da (Đ 7) HS))))))))))))))),?_⟩
  refine⟨_,rfl,a,0,ns,rfl,by decide,hS,λc1=>?_⟩;refine⟨_,rfl,a,1,ns,rfl,by decide,hS,λc2=>?_⟩;refine⟨_,rfl,a,2,ns,rfl,by decide,hS,λc3=>?_⟩;obtain⟨cs,ec⟩:=BX ns (some 3)<|some 13;have cl:cs.length<=10:=by have:=Dr<|ns.map V.int;rwa [ec,DH]at this
  refine⟨_,rfl,_,rfl,3,rfl,13,rfl,a,_,rfl,hS,λl H1 e1 h1 hl=>?_⟩;rw[ec]at hl;refine⟨H1,.ref l,c1,cs,rfl,f'.refl _,⟨l,_,rfl,hl,r9 _⟩,cl,λx H2 k S R e2 hx k2 k6 rl L=>?_⟩;obtain⟨tp,_,rfl,Sb,vn,_,rfl,hn,vt,_,rfl,ht,rfl⟩:=hx;refine⟨tp,_,rfl,Kc.of Sb,rfl,_,_,rfl,_,[],rfl,rfl,?_⟩;have W:=L.wn k2 k6 rl;have pz:=l6 L.Ia;have SR:=L.SR k6;have ll:=yE S;have nw:=W.XR (by omega);have Ro:(R.map (·.1)).Nodup:=W.ln.asc.imp λz=>Int.ne_of_lt z;have key:∀ r∈R,0<=r.1/\r.1<1000:=λr hr=>by have:=DS (f:=λr:LT=>r.1) hr;rw[L.key]at this;obtain⟨i,hi,e⟩:=DI.mp this;have:=Eg.mp hi;have e:(i:Int)=r.1:=e;omega
  obtain⟨m,em,m1,m3⟩:∃ m:Nat,1+c1 / 5 % 3=(m:Int)/\1<=m/\m<=3:=by have b1:=EM (c1 / 5) (show (3:Int)≠0 by decide);have b2:=EC (c1 / 5) (show (0:Int)<3 by decide);exact⟨(1+c1 / 5 % 3).toNat,by omega,by omega,by omega⟩
  obtain⟨p0,ep,RL⟩:∃ p0:Nat,O3 [D.int 2,.int 3,.int 5] (c1 / 15 % 3)=some (.int (p0:Int))/\(p0=2\/p0=3\/p0=5):=by
   have b1:=EM (c1 / 15) (show (3:Int)≠0 by decide);have b2:=EC (c1 / 15) (show (0:Int)<3 by decide);generalize c1 / 15 % 3=z at b1 b2;rcases (show z=0\/z=1\/z=2 by omega) with rfl|rfl|rfl
   ·exact⟨2,rfl,.inl rfl⟩
   ·exact⟨3,rfl,.inr<|.inl rfl⟩
   ·exact⟨5,rfl,.inr<|.inr rfl⟩
  have hq:∀ H',f' H2 H'->∀ y,DR H' (.bl true) y->Q y H':=λH' _ y hy=>by cases hy;exact q H'
  refine⟨H2,H2,H2,[.un,.fz<|.int c1,.fz<|.int c2,.fz<|.int c3,.fz<|aI c S,.fz<|.lst (R.map bb),.un,.un,.un,.un,.un,.un,.un,.un,.un],.rt<|.bl true,?_,?_,λy H' e' _ hy=>by cases hy;exact q H'⟩
  ·exact Sd.ss (ε:=[none,some<|.int c1,some<|.int c2,some<|.int c3,some<|aI c S,some<|.lst (R.map bb),none,none,none,none,none,none,none,none,none]) (Jh<|KI rfl (KI rfl<|KI rfl (KI hn<|KI ht (Jh<|Jh (Jh<|Jh (Jh<|Jh (Jh<|Jh (Jh<|Rb (f'.refl _)))))))))
  refine .nx (.mk (d:=.int (m:Int)) (by rw[<- em];exact⟨rfl,⟨⟨rfl,rfl,⟨⟨by decide,by decide⟩⟩⟩,rfl,⟨by decide⟩⟩,.i⟩)) ?_;refine .nx (.mk ⟨⟨⟨rfl,rfl,rfl,rfl⟩,by simp,rfl⟩,⟨⟨rfl,rfl,⟨⟨by decide,by decide⟩⟩⟩,rfl,⟨by decide⟩⟩,.l .lst ep⟩) ?_;obtain⟨p,epp,hp,hpm⟩:∃ p:Nat,p=(if m=3/\p0=5 then 3 else p0)/\(p=2\/p=3\/p=5)/\p ^ m<=1000:=by
   by_cases z:m=3/\p0=5
   ·exact⟨3,by rw[if_pos z],.inr<|.inl rfl,by rw[z.1];decide⟩
   ·refine⟨p0,by rw[if_neg z],RL,?_⟩;rcases RL with rfl|rfl|rfl <;> rcases (show m=1\/m=2\/m=3 by omega) with rfl|rfl|rfl <;> decide
  have hP:=uY p hp;have p2:2<=p/\p<=5:=by omega
  refine .nx (ε1:=[.un,.fz<|.int c1,.fz<|.int c2,.fz<|.int c3,.fz<|aI c S,.fz<|.lst (R.map bb),.fz<|.int (m:Int),.fz<|.int (p:Int),.un,.un,.un,.un,.un,.un,.un]) ?_ ?_
  ·have r1:=eq_int (ε:=[none,some<|.int c1,some<|.int c2,some<|.int c3,some<|aI c S,some<|.lst (R.map bb),some<|.int (m:Int),some<|.int (p0:Int),none,none,none,none,none,none,none]) (ra:=rV 6) (rb:=rC<|.int 3) rfl rfl;have r2:=eq_int (ε:=[none,some<|.int c1,some<|.int c2,some<|.int c3,some<|aI c S,some<|.lst (R.map bb),some<|.int (m:Int),some<|.int (p0:Int),none,none,none,none,none,none,none]) (ra:=rV 7) (rb:=rC<|.int 5) rfl rfl;by_cases z1:m=3
   ·rw[DM<|by omega]at r1;by_cases z2:p0=5
    ·rw[DM<|by omega]at r2;rw[epp,if_pos ⟨z1,z2⟩];exact .t (.t r1 r2) ⟨rfl⟩
    ·rw[DQ<|by omega]at r2;rw[epp,if_neg λy=>z2 y.2];exact .f (.t r1 r2) rfl
   ·rw[DQ<|by omega]at r1;rw[epp,if_neg λy=>z1 y.1];exact .f (.f r1) rfl
  generalize hfs:(R.filter λr=>decide (gN c3 r.1 % 7=0)).map (·.1)=fs;refine .nx (.mk (d:=rw fs) ?_) (.nx ⟨rfl⟩ ?_)
  ·rw[<- hfs,Fl.rt.inj<|P9 (λr:LT=>r.1) _];exact bh (u:=bb) (λr=>decide (gN c3 r.1 % 7=0)) ⟨rfl,.l .lst⟩ (by omega) λr hr=>⟨_,rfl,eq_int ⟨⟨⟨rfl,⟨rfl,rfl,.t rfl⟩,rfl⟩,⟨(key r hr).1,(key r hr).2⟩⟩,rfl,⟨by decide⟩⟩ rfl,λ_=>⟨rfl,rfl,.t rfl⟩⟩
  refine eZ S.J8 (λi ε=>∃ b ME LI LH K' MD,ε=[.un,.fz<|.int c1,.fz<|.int c2,.fz<|.int c3,.fz<|aI c S,.fz<|.lst (R.map bb),.fz<|.int (m:Int),.fz<|.int (p:Int),.fz<|rw fs,.fz<|.bl b,ME,LI,LH,K',MD]/\(b=false->∀ g∈S.J8.take i,∃ w,bx S.HM (some "h") g 21 m=.inr w)) ⟨false,_,_,_,_,_,rfl,λ_ g hg=>by simp at hg⟩ ⟨⟨rfl,rfl,by decide,⟨by omega⟩⟩,.l .lst⟩ (λi g ε hg h=>?_) λε h=>?_
  ·obtain⟨b,ME,LI,LH,K',MD,rfl,hb⟩:=h;have gm:=DO hg;have O:=W.wok (by omega)<|some fs;have w1:=KC.mk (c:=c) O gm m1 (by omega) (by omega);have w2:=KC.mk (c:=c) (W.wok (by omega) none) gm m1 (by omega) (by omega);rw[W.Ji]at w1 w2;have last:∀ (wd:Str)(d1 d2:D)(K' MD:Sl),∃ ε2,CD 9 (CG (rV 9)<|rO (fE false) (rO L2.Sub (rF (λl=>KC c<|l++[.non])<|rA (rV 4) (rA (rV 10)<|rA (rV 6) Of))<|rC (.int 0)) (rC<|.str "cut")) [.un,.fz<|.int c1,.fz<|.int c2,.fz<|.int c3,.fz<|aI c S,.fz<|.lst (R.map bb),.fz<|.int (m:Int),.fz<|.int (p:Int),.fz<|rw fs,.fz<|.bl b,.fz<|.str g,.fz<|.str wd,.fz d2,K',MD] (.nx ε2)/\∃ b ME LI LH K' MD,ε2=[.un,.fz<|.int c1,.fz<|.int c2,.fz<|.int c3,.fz<|aI c S,.fz<|.lst (R.map bb),.fz<|.int (m:Int),.fz<|.int (p:Int),.fz<|rw fs,.fz<|.bl b,ME,LI,LH,K',MD]/\(b=false->∀ g∈S.J8.take (i+1),∃ w,bx S.HM (some "h") g 21 m=.inr w):=λwd d1 d2 K' MD=>by
    cases b with
    | true=>exact⟨_,⟨.t rfl⟩,true,_,_,_,_,_,rfl,λz=>nomatch z⟩
    | false=>
     cases hw:bx S.HM (some "h") g 21 m with
     | inl ks=>
      rw[show aZ S.HM none=S.HM from rfl,hw]at w2;have r:=eq_str (ε:=[none,some<|.int c1,some<|.int c2,some<|.int c3,some<|aI c S,some<|.lst (R.map bb),some<|.int (m:Int),some<|.int (p:Int),some<|rw fs,some<|.bl false,some<|.str g,some<|.str wd,some d2,K'.z,MD.z]) (ra:=rO L2.Sub (rF (λl=>KC c<|l++[.non])<|rA (rV 4) (rA (rV 10)<|rA (rV 6) Of))<|rC (.int 0)) (rb:=rC<|.str "cut") ⟨⟨⟨rfl,rfl,rfl,rfl⟩,w2⟩,rfl,.t rfl⟩ rfl;rw[DM rfl]at r;exact⟨_,⟨.f rfl r⟩,true,_,_,_,_,_,rfl,λz=>nomatch z⟩
     | inr ws=>
      rw[show aZ S.HM none=S.HM from rfl,hw]at w2;have r:=eq_str (ε:=[none,some<|.int c1,some<|.int c2,some<|.int c3,some<|aI c S,some<|.lst (R.map bb),some<|.int (m:Int),some<|.int (p:Int),some<|rw fs,some<|.bl false,some<|.str g,some<|.str wd,some d2,K'.z,MD.z]) (ra:=rO L2.Sub (rF (λl=>KC c<|l++[.non])<|rA (rV 4) (rA (rV 10)<|rA (rV 6) Of))<|rC (.int 0)) (rb:=rC<|.str "cut") (x:="ways") ⟨⟨⟨rfl,rfl,rfl,rfl⟩,w2⟩,rfl,.t rfl⟩ rfl;rw[DQ<|by decide]at r;refine⟨_,⟨.f rfl r⟩,false,_,_,_,_,_,rfl,λ_ g' Yx=>?_⟩;rw[be hg]at Yx;rcases Ea.mp Yx with z|z
      ·exact hb rfl g' z
      ·rw[E5.mp z];exact⟨ws,hw⟩
   refine⟨_,rfl,?_⟩
   cases hw:bx (aZ S.HM<|some fs) (some "h") g 21 m with
   | inr ws=>
    rw[hw]at w1;have r:=eq_str (ε:=[none,some<|.int c1,some<|.int c2,some<|.int c3,some<|aI c S,some<|.lst (R.map bb),some<|.int (m:Int),some<|.int (p:Int),some<|rw fs,some<|.bl b,some<|.str g,some<|.str "ways",some<|tb ws,K'.a,MD.a]) (ra:=rV 11) (rb:=rC<|.str "cut") (x:="ways") rfl rfl;rw[DQ<|by decide]at r;exact oW ⟨⟨⟨rfl,rfl,rfl,⟨⟨rfl,rfl⟩,.s<|.sq .lst⟩,rfl⟩,w1⟩,_,rfl,rfl,rfl⟩ (oW (.f r rfl)<|last _ .non _ _ _)
   | inl ks=>
    rw[hw]at w1;have r:=eq_str (ε:=[none,some<|.int c1,some<|.int c2,some<|.int c3,some<|aI c S,some<|.lst (R.map bb),some<|.int (m:Int),some<|.int (p:Int),some<|rw fs,some<|.bl b,some<|.str g,some<|.str "cut",some<|rw ks,K'.a,MD.a]) (ra:=rV 11) (rb:=rC<|.str "cut") (x:="cut") rfl rfl;rw[DM rfl]at r;refine oW ⟨⟨⟨rfl,rfl,rfl,⟨⟨rfl,rfl⟩,.s<|.sq .lst⟩,rfl⟩,w1⟩,_,rfl,rfl,rfl⟩ (YV r ?_);refine W4 (List.range 2) (u:=λ(j:Nat)=>.int (j:Int)) (λ_ ε=>∃ K' MD,ε=[.un,.fz<|.int c1,.fz<|.int c2,.fz<|.int c3,.fz<|aI c S,.fz<|.lst (R.map bb),.fz<|.int (m:Int),.fz<|.int (p:Int),.fz<|rw fs,.fz<|.bl b,.fz<|.str g,.fz<|.str "cut",.fz<|rw ks,K',MD]) ⟨_,_,rfl⟩ ⟨2,by omega,⟨rfl,rfl⟩,(bt 2).symm⟩ (λj x ε hx h=>?_) λε' h=>?_
    ·obtain⟨K',MD,rfl⟩:=h;have nr:=W.PZ (c:=c) (N:=21) nw rfl hP (by omega) (by omega) hpm (W.YM (m:=m) (p:=p) (g:=gN<|c2+97 * (x:Int)) (by omega)<|by omega) gm (by omega) O hw;exact⟨_,rfl,_,.nx ⟨⟨rfl,rfl,rfl,⟨rfl,⟨rfl,rfl,⟨.inl ⟨by decide,by decide⟩⟩⟩,.i⟩,rfl⟩,.mk (by omega) (by omega) Ro<|by omega⟩<|.f ⟨⟨rfl,rfl,rfl,rfl,rfl,⟨⟨rfl,rfl,rfl⟩,by simp,rfl⟩,rfl⟩,nr⟩ rfl,_,_,rfl⟩
    ·obtain⟨K',MD,rfl⟩:=h;exact last _ .non _ _ _
  ·obtain⟨b,ME,LI,LH,K',MD,rfl,hb⟩:=h;rw[Et]at hb
   cases b with
   | true=>exact .rt (.t (.t rfl) ⟨rfl,rfl⟩)
   | false=>
    have hb:=hb rfl;have l1:=M0.m (g:=D.str) (x:=S.J8);have rd:=lt_int (ε:=[none,some<|.int c1,some<|.int c2,some<|.int c3,some<|aI c S,some<|.lst (R.map bb),some<|.int (m:Int),some<|.int (p:Int),some<|rw fs,some<|.bl false,ME.a,LI.a,LH.a,K'.a,MD.a]) (ra:=rV 7) (rb:=rF M0<|rA (CI (λx=>x=c.IU) "listeners" (λx=>bB c)<|rV 4) Of) rfl ⟨⟨⟨rfl,rfl,by decide,⟨by omega⟩⟩,rfl⟩,l1⟩;by_cases z:p<S.J8.length
    ·rw[DM<|by omega]at rd;exact .rt (.t (.f rfl rd) ⟨rfl,rfl⟩)
    ·rw[DQ<|by omega]at rd;have st:aZ S.HM (some [])=S.HM:=Ht.mpr λt _=>rfl;exact .nx (.f (.f rfl rd) rfl) ⟨⟨⟨rfl,rfl,rfl,rfl⟩,W.wide hP (by omega) m1 (by omega) (by omega) (by rw[st];exact hb) (by omega) SR⟩,rfl⟩
end
section
variable {P:É}{w:World}{K:Ψ}{mg:Ω}{base h:Heap}
def UB (K:Ψ)(C:Addr)(ğ:Str)(st:Stmt):Prop:=∃ f fd,Mk K C f/\Iy K "__init__" ğ st f fd
theorem in0_mk {kV:Value}(mk:W.makesIn K C=true)(a:W.findIn K (.ref C) "__init__"=some (some (.ref f)))(i:W.isFn K (.ref f)=true)(kc:W.keepIn K (.ref C)=true)(l:K.lookup f=some ⟨oc,od,.func (W.fnOf "__init__" ğ (aT st) (aH st) (a8 st) .none kV doc pm an HU ct),Kv⟩)(c:W.codeIn K HU ğ=true)(k:W.keepIn K (.ref f)=true):UB K C ğ st:=⟨f,_,⟨mk,a,i,kc⟩,xL l c k⟩
def Ws (K:Ψ)(C:Addr)(m ğ:Str)(st:Stmt):Prop:=∃ (f T:Addr)(t:Tok)(kV doc pm:Value)(an:ψ)(HU ct:Value)(oc:Value)(od:ψ)(Kv:ω)(tc:Value)(td:ψ)(n:Nat)(Ot:ω),yb K C m f/\
 K.lookup f=some ⟨oc,od,.func (W.fnOf m ğ (aT st) (aH st) (a8 st) (.ref T) kV doc pm an HU ct),Kv⟩/\W.codeIn K HU ğ=true/\W.keepIn K (.ref f)=true/\K.lookup T=some ⟨tc,td,.seq #[.int 1 t] n,Ot⟩
theorem meD0_mk {C:Addr}{m ğ:Str}{st:Stmt}{f T:Addr}{t:Tok}{oc tc:Value}{od an td:ψ}{Kv Ot:ω}{n:Nat}{kV doc pm HU ct:Value} (a:W.findIn K (.ref C) m=some (some (.ref f))) (i:W.isFn K (.ref f)=true)
  (l:K.lookup f=some ⟨oc,od,.func (W.fnOf m ğ (aT st) (aH st) (a8 st) (.ref T) kV doc pm an HU ct),Kv⟩)
  (c:W.codeIn K HU ğ=true) (k:W.keepIn K (.ref f)=true) (d:K.lookup T=some ⟨tc,td,.seq #[.int 1 t] n,Ot⟩):Ws K C m ğ st:=⟨f,T,t,kV,doc,pm,an,HU,ct,oc,od,Kv,tc,td,n,Ot,⟨a,i,k⟩,l,c,k,d⟩
theorem Bw (F:Ws K C x ğ st)(cl:LF K C)(hb:∀ (T:Addr)(t:Tok)(kV doc pm:Value)(an:ψ)(HU ct:Value)(us:θ),us.length+1=ps.length->∃ kk,bindArgs (W.fnOf x ğ (aT st) (aH st) (a8 st) (.ref T) kV doc pm an HU ct) ⟨us,[]⟩=seqItems? (.ref T) >>= kk/\kk (some #[.int 1 t])=pure (ps.zip (us++[.int 1 t])))(ok:∀ f fd,JU K x ğ st f fd->HP P w K mg base Ik k f fd ps sp):Dmd P w K mg base k C x ps [.int 1] sp:=by obtain⟨f,T,t,kV,doc,pm,an,HU,ct,oc,od,Kv,tc,td,n,Ot,m,l,c,kp,d⟩:=F;refine⟨f,_,[.int 1 t],cl,m,λs us KG hl=>?_,.cons ⟨t,rfl⟩ .nil,ok f _ ⟨⟨oc,od,.ref T,kV,doc,pm,an,HU,ct,Kv,rfl,l,c⟩,kp⟩⟩;obtain⟨kk,h1,h2⟩:=hb T t kV doc pm an HU ct us (by rw[DT]at hl;exact hl);exact Hv rfl (KG _ _ d) rfl h1 h2
def yc (K:Ψ)(x ğ:Str)(st:Stmt):Prop:=∃ (f T:Addr)(kV doc pm:Value)(an:ψ)(HU ct:Value)(oc:Value)(od:ψ)(Kv:ω)(tc:Value)(td:ψ)(n:Nat)(Ot:ω),W.nsIn K mainGlobals x=some (some (.ref f))/\
 K.lookup f=some ⟨oc,od,.func (W.fnOf x ğ (aT st) (aH st) (a8 st) (.ref T) kV doc pm an HU ct),Kv⟩/\W.codeIn K HU ğ=true/\W.keepIn K (.ref f)=true/\K.lookup T=some ⟨tc,td,.seq #[.none] n,Ot⟩
theorem fnD0_mk {x ğ:Str}{st:Stmt}{f T:Addr}{oc tc:Value}{od an td:ψ}{Kv Ot:ω}{n:Nat}{kV doc pm HU ct:Value} (a:W.nsIn K mainGlobals x=some (some (.ref f)))
  (l:K.lookup f=some ⟨oc,od,.func (W.fnOf x ğ (aT st) (aH st) (a8 st) (.ref T) kV doc pm an HU ct),Kv⟩)
  (c:W.codeIn K HU ğ=true) (k:W.keepIn K (.ref f)=true) (d:K.lookup T=some ⟨tc,td,.seq #[.none] n,Ot⟩):yc K x ğ st:=⟨f,T,kV,doc,pm,an,HU,ct,oc,od,Kv,tc,td,n,Ot,a,l,c,k,d⟩
theorem mY (F:yc K x ğ st)(X:K.In h)(G:h.Ns mainGlobals mg)(hb:∀ (T:Addr)(kV doc pm:Value)(an:ψ)(HU ct:Value)(us:θ),us.length=ps.length->∃ kk,bindArgs (W.fnOf x ğ (aT st) (aH st) (a8 st) (.ref T) kV doc pm an HU ct) ⟨us,[]⟩=seqItems? (.ref T) >>= kk/\kk (some #[.none])=pure (ps.zip us))(ok:∀ f fd,JU K x ğ st f fd->HP P w K mg base Ik k f fd ps sp):Df P w K mg base k x ps sp:=by obtain⟨f,T,kV,doc,pm,an,HU,ct,oc,od,Kv,tc,td,n,Ot,a,l,c,kp,d⟩:=F;refine⟨f,_,Fo X G a,kp,λs us KG hl=>?_,ok f _ ⟨⟨oc,od,.ref T,kV,doc,pm,an,HU,ct,Kv,rfl,l,c⟩,kp⟩⟩;rw[El]at hl ⊢;obtain⟨kk,h1,h2⟩:=hb T kV doc pm an HU ct us hl;exact Hv rfl (KG _ _ d) rfl h1 h2
theorem vW (F:yc K x ğ st)(X:K.In h)(G:h.Ns mainGlobals mg)(hb:∀ (T:Addr)(kV doc pm:Value)(an:ψ)(HU ct:Value)(us:θ),us.length+1=ps.length->∃ kk,bindArgs (W.fnOf x ğ (aT st) (aH st) (a8 st) (.ref T) kV doc pm an HU ct) ⟨us,[]⟩=seqItems? (.ref T) >>= kk/\kk (some #[.none])=pure (ps.zip (us++[.none])))(ok:∀ f fd,JU K x ğ st f fd->HP P w K mg base Ik k f fd ps sp):Sz P w K mg base k x ps [.non] sp:=by obtain⟨f,T,kV,doc,pm,an,HU,ct,oc,od,Kv,tc,td,n,Ot,a,l,c,kp,d⟩:=F;refine⟨f,_,[.none],Fo X G a,kp,λs us KG hl=>?_,.cons rfl .nil,ok f _ ⟨⟨oc,od,.ref T,kV,doc,pm,an,HU,ct,Kv,rfl,l,c⟩,kp⟩⟩;obtain⟨kk,h1,h2⟩:=hb T kV doc pm an HU ct us (by rw[DT]at hl;exact hl);exact Hv rfl (KG _ _ d) rfl h1 h2
def Wu (K:Ψ)(x ğ:Str)(st:Stmt):Prop:=∃ (f T:Addr)(t:Tok)(kV doc pm:Value)(an:ψ)(HU ct:Value)(oc:Value)(od:ψ)(Kv:ω)(tc:Value)(td:ψ)(n:Nat)(Ot:ω),W.nsIn K mainGlobals x=some (some (.ref f))/\
 K.lookup f=some ⟨oc,od,.func (W.fnOf x ğ (aT st) (aH st) (a8 st) (.ref T) kV doc pm an HU ct),Kv⟩/\W.codeIn K HU ğ=true/\W.keepIn K (.ref f)=true/\K.lookup T=some ⟨tc,td,.seq #[.int 0 t] n,Ot⟩
theorem fnI0_mk {x ğ:Str}{st:Stmt}{f T:Addr}{t:Tok}{oc tc:Value}{od an td:ψ}{Kv Ot:ω}{n:Nat}{kV doc pm HU ct:Value} (a:W.nsIn K mainGlobals x=some (some (.ref f)))
  (l:K.lookup f=some ⟨oc,od,.func (W.fnOf x ğ (aT st) (aH st) (a8 st) (.ref T) kV doc pm an HU ct),Kv⟩)
  (c:W.codeIn K HU ğ=true) (k:W.keepIn K (.ref f)=true) (d:K.lookup T=some ⟨tc,td,.seq #[.int 0 t] n,Ot⟩):Wu K x ğ st:=⟨f,T,t,kV,doc,pm,an,HU,ct,oc,od,Kv,tc,td,n,Ot,a,l,c,k,d⟩
theorem BL (F:Wu K x ğ st)(X:K.In h)(G:h.Ns mainGlobals mg)(hb:∀ (T:Addr)(t:Tok)(kV doc pm:Value)(an:ψ)(HU ct:Value)(us:θ),us.length+1=ps.length->∃ kk,bindArgs (W.fnOf x ğ (aT st) (aH st) (a8 st) (.ref T) kV doc pm an HU ct) ⟨us,[]⟩=seqItems? (.ref T) >>= kk/\kk (some #[.int 0 t])=pure (ps.zip (us++[.int 0 t])))(ok:∀ f fd,JU K x ğ st f fd->HP P w K mg base Ik k f fd ps sp):Sz P w K mg base k x ps [.int 0] sp:=by obtain⟨f,T,t,kV,doc,pm,an,HU,ct,oc,od,Kv,tc,td,n,Ot,a,l,c,kp,d⟩:=F;refine⟨f,_,[.int 0 t],Fo X G a,kp,λs us KG hl=>?_,.cons ⟨t,rfl⟩ .nil,ok f _ ⟨⟨oc,od,.ref T,kV,doc,pm,an,HU,ct,Kv,rfl,l,c⟩,kp⟩⟩;obtain⟨kk,h1,h2⟩:=hb T t kV doc pm an HU ct us (by rw[DT]at hl;exact hl);exact Hv rfl (KG _ _ d) rfl h1 h2
@[elab_as_elim] theorem len1 {α:Type}{P:List α->Prop}:∀ (us:List α),us.length=1->(∀ a,P [a])->P us
 | [_],_,f=>f _
@[elab_as_elim] theorem len2 {α:Type}{P:List α->Prop}:∀ (us:List α),us.length=2->(∀ a b,P [a,b])->P us
 | [_,_],_,f=>f _ _
@[elab_as_elim] theorem zP {α:Type}{P:List α->Prop}:∀ (us:List α),us.length=3->(∀ a b c,P [a,b,c])->P us
 | [_,_,_],_,f=>f _ _ _
@[elab_as_elim] theorem Bz {α:Type}{P:List α->Prop}:∀ (us:List α),us.length=4->(∀ a b c d,P [a,b,c,d])->P us
 | [_,_,_,_],_,f=>f _ _ _ _
@[elab_as_elim] theorem zO {α:Type}{P:List α->Prop}:∀ (us:List α),us.length=5->(∀ a b c d e,P [a,b,c,d,e])->P us
 | [_,_,_,_,_],_,f=>f _ _ _ _ _
@[elab_as_elim] theorem len6 {α:Type}{P:List α->Prop}:∀ (us:List α),us.length=6->(∀ a b c d e f,P [a,b,c,d,e,f])->P us
 | [_,_,_,_,_,_],_,f=>f _ _ _ _ _ _
theorem W3 (X:K.In h)(G:h.Ns mainGlobals mg){x ğ:Str}{st:Stmt}{ps:η}{sp:Sp}{k:Nat} (F:Jo K x ğ st) (ok:∀ f fd,Iy K x ğ st f fd->HP P w K mg base Ik k f fd ps sp) (hb:∀ (kV doc pm:Value)(an:ψ)(HU ct:Value)(us:θ),us.length=ps.length->bindArgs (W.fnOf x ğ (aT st) (aH st) (a8 st) .none kV doc pm an HU ct) ⟨us,[]⟩=pure (ps.zip us):=by intro _ _ _ _ _ _ us hl;first|exact len1 us hl λ_=>rfl|exact len2 us hl λ_ _=>rfl|exact zP us hl λ_ _ _=>rfl|exact Bz us hl λ_ _ _ _=>rfl|exact zO us hl λ_ _ _ _ _=>rfl|exact len6 us hl λ_ _ _ _ _ _=>rfl):Df P w K mg base k x ps sp:=by obtain⟨f,fd,a,F⟩:=F;exact⟨f,fd,Fo X G a,F.kp,F.binds hb,ok f fd F⟩
theorem Vm {C:Addr}{x ğ:Str}{st:Stmt}{ps:η}{sp:Sp}{k:Nat} (F:MV K C x ğ st) (cl:LF K C) (ok:∀ f fd,Iy K x ğ st f fd->HP P w K mg base Ik k f fd ps sp) (hb:∀ (kV doc pm:Value)(an:ψ)(HU ct:Value)(us:θ),us.length=ps.length->bindArgs (W.fnOf x ğ (aT st) (aH st) (a8 st) .none kV doc pm an HU ct) ⟨us,[]⟩=pure (ps.zip us):=by intro _ _ _ _ _ _ us hl;first|exact len1 us hl λ_=>rfl|exact len2 us hl λ_ _=>rfl|exact zP us hl λ_ _ _=>rfl|exact Bz us hl λ_ _ _ _=>rfl|exact zO us hl λ_ _ _ _ _=>rfl|exact len6 us hl λ_ _ _ _ _ _=>rfl):Dm P w K mg base k C x ps sp:=by obtain⟨f,fd,m,F⟩:=F;exact⟨f,fd,cl,m,F.binds hb,ok f fd F⟩
theorem VD (X:K.In h)(G:h.Ns mainGlobals mg){C:Addr}{x ğ:Str}{st:Stmt}{ps:η}{sp:Sp}{k:Nat} (F:UB K C ğ st) (aC:W.nsIn K mainGlobals x=some (some (.ref C))) (ok:∀ f fd,Iy K "__init__" ğ st f fd->HP P w K mg base Ik k f fd ps sp) (hb:∀ (kV doc pm:Value)(an:ψ)(HU ct:Value)(us:θ),us.length=ps.length->bindArgs (W.fnOf "__init__" ğ (aT st) (aH st) (a8 st) .none kV doc pm an HU ct) ⟨us,[]⟩=pure (ps.zip us):=by intro _ _ _ _ _ _ us hl;first|exact len1 us hl λ_=>rfl|exact len2 us hl λ_ _=>rfl|exact zP us hl λ_ _ _=>rfl|exact Bz us hl λ_ _ _ _=>rfl|exact zO us hl λ_ _ _ _ _=>rfl|exact len6 us hl λ_ _ _ _ _ _=>rfl):Dk P w K mg base k x C ps sp:=by obtain⟨f,fd,m,F⟩:=F;exact⟨f,fd,Fo X G aC,m,F.binds hb,ok f fd F⟩
end
theorem all_mk {l:W.OpenLaw}{CE:Addr}(X:K.In h)(G:h.Ns mainGlobals mg)(WI:mg "law"=some (.ref fa))(ac:W.nsIn K mainGlobals "Net"=some (some (.ref CN)))(ad:W.nsIn K mainGlobals "Post"=some (some (.ref CP)))(ah:W.nsIn K mainGlobals "House"=some (some (.ref CH)))(al:W.nsIn K mainGlobals "Listener"=some (some (.ref CL)))(am:W.nsIn K mainGlobals "Field"=some (some (.ref CF)))(ap:W.nsIn K mainGlobals "Ear"=some (some (.ref CE)))(az:W.plainGet K CN Str.empty=true)(aC:W.hasDictIn K CN=true)(a0:W.plainOver K CN=true)(a1:W.findIn K (.ref CN) "__setattr__"=some (some (.builtin "object.__setattr__")))(a2:W.plainGet K CP Str.empty=true)(a3:W.hasDictIn K CP=true)(a4:W.plainOver K CP=true)(a5:W.findIn K (.ref CP) "__setattr__"=some (some (.builtin "object.__setattr__")))(a6:W.plainGet K CH Str.empty=true)(a7:W.hasDictIn K CH=true)(ba:W.plainOver K CH=true)(bj:W.findIn K (.ref CH) "__setattr__"=some (some (.builtin "object.__setattr__")))(bl:W.plainGet K CL Str.empty=true)(bm:W.hasDictIn K CL=true)(bp:W.plainOver K CL=true)(bq:W.findIn K (.ref CL) "__setattr__"=some (some (.builtin "object.__setattr__")))(bs:W.plainGet K CF Str.empty=true)(bw:W.hasDictIn K CF=true)(b0:W.plainOver K CF=true)(b1:W.findIn K (.ref CF) "__setattr__"=some (some (.builtin "object.__setattr__")))(b3:W.plainGet K CE Str.empty=true)(b4:W.hasDictIn K CE=true)(b9:W.plainOver K CE=true)(ca:W.findIn K (.ref CE) "__setattr__"=some (some (.builtin "object.__setattr__")))(cb:W.findIn K (.ref CN) "kept_posts"=some none)(cc:W.findIn K (.ref CN) "kept_ties"=some none)(cd:W.findIn K (.ref CN) "next_number"=some none)(ce:W.findIn K (.ref CP) "name"=some none)(ch:W.findIn K (.ref CH) "name"=some none)(ci:W.findIn K (.ref CL) "name"=some none)(cj:W.findIn K (.ref CF) "prime"=some none)(ck:W.findIn K (.ref CE) "rows"=some none)(cl:W.findIn K (.ref CE) "probes"=some none)(cm:W.nsIn K mainGlobals "LETTERS"=some (some (.str "abcdefghijklmnopqrstuvwxyz" QC)))(cn:W.nsIn K mainGlobals "LONGEST_NAME"=some (some (.int 8 NL)))(co:W.nsIn K mainGlobals "MOST_POSTS"=some (some (.int 20 OJ)))(cp:W.nsIn K mainGlobals "MOST_LISTENERS"=some (some (.int 8 MW)))(cs:W.nsIn K mainGlobals "MOST_TIES"=some (some (.int 40 Pd)))(cx:W.nsIn K mainGlobals "LONGEST_DELAY"=some (some (.int 99 Nt)))(cz:W.nsIn K mainGlobals "GREATEST_PRIME"=some (some (.int 1000000 MX)))(c0:W.kitOne K (.type "str") (.type "str")=some true)(c1:W.kitOne K (.type "int") (.type "int")=some true)(c2:W.kitOne K (.type "int") (.type "bool")=some false)(c3:CP≠CH)(c4:CP≠CL)(c5:CH≠CL)(dd:W.nsIn K mainGlobals "len"=some none)(dk:W.nsIn K mainGlobals "isinstance"=some none)(dl:W.nsIn K mainGlobals "str"=some none)(dn:W.nsIn K mainGlobals "all"=some none)(dp:W.nsIn K mainGlobals "list"=some none)(dr:W.nsIn K mainGlobals "int"=some none)(ds:W.nsIn K mainGlobals "bool"=some none)(dt:W.nsIn K mainGlobals "enumerate"=some none)(dx:W.nsIn K mainGlobals "range"=some none)(dy:W.nsIn K mainGlobals "min"=some none)(dz:W.nsIn K mainGlobals "max"=some none)(dK:W.nsIn K mainGlobals "dict"=some none)(dN:W.nsIn K mainGlobals "sorted"=some none)(d0:W.nsIn K mainGlobals "zip"=some none)(d1:W.nsIn K mainGlobals "sum"=some none)(d2:W.nsIn K mainGlobals "tuple"=some none)(d4:W.nsIn K mainGlobals "any"=some none)(d5:W.nsIn K mainGlobals "set"=some none)(f0:Jo K "is_name" "is_name" iI)(f1:MV K CP "reads" "Post.reads" dh)(f2:MV K CH "reads" "Post.reads" dh)(f3:MV K CL "reads" "Listener.reads" cM)(f4:MV K CP "hears" "Post.hears" di)(f5:MV K CH "hears" "House.hears" fA)(f6:MV K CL "hears" "Post.hears" di)(f7:UB K CP "Post.__init__" bC)(f8:UB K CH "Post.__init__" bC)(f9:UB K CL "Post.__init__" bC)(f10:UB K CN "Net.__init__" dU)(f11:MV K CN "check_new_name" "Net.check_new_name" bP)(f12:MV K CN "listeners" "Net.listeners" db)(f13:MV K CN "home" "Net.home" ji)(f14:MV K CN "put_in" "Net.put_in" ga)(f15:MV K CN "post" "Net.post" jg)(f16:MV K CN "listener" "Net.listener" dR)(f17:MV K CN "house" "Net.house" ia)(f18:Jo K "is_whole" "is_whole" g8)(f19:Jo K "is_delay" "is_delay" je)(f20:MV K CN "ties" "Net.ties" jf)(f21:MV K CN "names" "Net.names" i9)(f22:Jo K "led_to" "led_to" nJ)(f23:MV K CN "check_there" "Net.check_there" cy)(f24:MV K CN "check_ends" "Net.check_ends" cL)(f25:Ws K CN "tie" "Net.tie" kZ)(f26:MV K CN "into" "Net.into" jh)(f27:MV K CN "out_of" "Net.out_of" gb)(f28:Jo K "first_ready" "first_ready" fh)(f29:MV K CN "ordered" "Net.ordered" fu)(f30:Jo K "mixing_ties" "mixing_ties" ff)(f31:Jo K "by_number" "by_number" i8)(f32:Jo K "wanted_lengths" "wanted_lengths" cK)(f33:Jo K "is_number_of" "is_number_of" dP)(f34:Jo K "is_row_of" "is_row_of" i6)(f35:Jo K "is_prime" "is_prime" jd)(f36:UB K CF "Field.__init__" wY)(f37:Jo K "checked_plan" "checked_plan" dQ)(f38:MV K CF "fit" "Field.fit" AO)(f39:MV K CF "times" "Field.times" sK)(f40:MV K CF "minus" "Field.minus" sL)(f41:MV K CF "back" "Field.back" x0)(f42:Jo K "row_sum" "row_sum" kR)(f43:Jo K "column" "column" nL)(f44:Jo K "ones_row" "ones_row" jc)(f45:Jo K "ones" "ones" wX)(f46:Jo K "coming_in" "coming_in" i7)(f47:Jo K "flow" "flow" wZ)(f48:yc K "sent" "sent" wW)(f49:yc K "carried" "carried" kY)(f50:Jo K "fitted_row" "fitted_row" g9)(f51:Jo K "row_with" "row_with" ja)(f52:Jo K "scaled" "scaled" nG)(f53:Jo K "without" "without" kQ)(f54:Jo K "cleared" "cleared" kW)(f55:Jo K "reduced" "reduced" kT)(f56:Jo K "first_place" "first_place" fj)(f57:Jo K "lead_places" "lead_places" fg)(f58:Jo K "reader" "reader" nH)(f59:Jo K "nought" "nought" nI)(f60:Jo K "judgement" "judgement" i5)(f61:yc K "judged" "judged" nK)(f62:Jo K "choices" "choices" kX)(f63:Jo K "standing_ties" "standing_ties" d9)(f64:Jo K "ties_by_post" "ties_by_post" dG)(f65:Jo K "step_over" "step_over" hZ)(f66:Jo K "reached_from" "reached_from" dI)(f67:Jo K "used_with" "used_with" h9)(f68:Jo K "ties_between" "ties_between" dH)(f69:Jo K "tie_out_of" "tie_out_of" g7)(f70:Jo K "one_way" "one_way" kU)(f71:Jo K "parted_ways" "parted_ways" fc)(f72:yc K "ways" "ways" wV)(f73:UB K CE "Ear.__init__" dW)(f74:MV K CE "shown" "Ear.shown" ie)(f75:MV K CE "move_front" "Ear.move_front" cN)(f76:Jo K "ways_by_choice" "ways_by_choice" cJ)(f77:Jo K "message_ties" "message_ties" dJ)(f78:Jo K "asks_by_tie" "asks_by_tie" fm)(f79:Jo K "unbarred" "unbarred" j9)(f80:Jo K "multipliers" "multipliers" fe)(f81:Jo K "times_row" "times_row" hX)(f82:Jo K "mixed_row" "mixed_row" i0)(f83:Jo K "made_plan" "made_plan" i4)(f84:Wu K "plan_for" "plan_for" jb)(f85:Jo K "_law_cell_at" "_law_cell_at" jj)(f86:Jo K "_law_mix" "_law_mix" sO)(f87:Jo K "_law_net" "_law_net" x6)(f88:Jo K "_law_plan" "_law_plan" sN)(f89:Jo K "_law_messages" "_law_messages" ic)(f90:Jo K "_law_like" "_law_like" sP)(f91:Jo K "_law_narrow" "_law_narrow" l5)(f92:Jo K "_law_wide" "_law_wide" sM)(fl:Jo K "law" "law" AN):
  ∃ fd:È,(∀ (s:Ê)(v:Value),BindsTo s fd ⟨[v],[]⟩ [("_law_script",v)])/\∀ base:Heap,K.In base->base.Ns mainGlobals mg->HP l.prog w K mg base Ik 10 fa fd ["_law_script"] (nA K):=by
 obtain⟨fL,fdL,aL,FL⟩:=fl;have e:=WI.symm.trans (Fo X G aL)
 cases e;have LU:LF K CN:=⟨az,aC,a0,a1⟩
 have W9:LF K CP:=⟨a2,a3,a4,a5⟩
 have Wa:LF K CH:=⟨a6,a7,ba,bj⟩
 have W':LF K CL:=⟨bl,bm,bp,bq⟩
 have R4:LF K CF:=⟨bs,bw,b0,b1⟩
 have Wb:LF K CE:=⟨b3,b4,b9,ca⟩
 have O:Cl.Ok K ⟨CN,CP,CH,CL⟩:=⟨LU,W9,Wa,W',cb,cc,cd,ce,ch,ci,c3,c4,c5⟩
 have TL:jB mg:=⟨E2 X G dd,E2 X G dk,E2 X G dl,E2 X G dn,E2 X G dp⟩
 have TG:DA mg:=⟨⟨_,Fo X G cm⟩,⟨_,Fo X G cn⟩,⟨_,Fo X G co⟩,⟨_,Fo X G cp⟩⟩
 have TK:Wi K:=⟨c0⟩
 have TN:Dz mg:=⟨E2 X G dk,E2 X G dr,E2 X G ds,E2 X G dd⟩
 have TH:Wk mg:=⟨⟨_,Fo X G cs⟩,⟨_,Fo X G cx⟩⟩
 have TI:Wj K:=⟨c1,c2⟩
 have TS:Dx mg:=⟨E2 X G dK,E2 X G dN⟩
 have TD:Ch mg:=⟨E2 X G dK,E2 X G dd,E2 X G dp,E2 X G dy⟩
 have TX:Txt K mg CF:=⟨R4,cj,E2 X G dx,E2 X G d0,E2 X G d1,E2 X G dd⟩
 have TP:Zl K mg CF:=⟨R4,cj,⟨_,Fo X G cz⟩⟩
 have TR:Dy mg:=⟨E2 X G dx⟩
 have TA:Ar mg:=⟨E2 X G dd,E2 X G dx,E2 X G dp,E2 X G dN,E2 X G dt,E2 X G dk,E2 X G dr,E2 X G ds,E2 X G d2,E2 X G dn,E2 X G d4,E2 X G d5,E2 X G dy,E2 X G dz⟩
 have TE:Kj K mg CE:=⟨Wb,ck,cl,E2 X G dx,E2 X G d0,E2 X G d4,E2 X G dd,E2 X G dt⟩
 refine⟨fdL,λs v=>?_,λbase _ _=>?_⟩
 ·obtain⟨oc,od,kV,doc,pm,an,HU,ct,Kv,rfl,lk,Qv⟩:=FL.ex;exact .of_eq rfl
 ·
  have fq:=@W3 l.prog w K mg base h X G;have mq:=@Vm l.prog w K mg base;have iq:=@VD l.prog w K mg base h X G;have Nd:=fq f0 λf fd F=>vb F TL TG TK;have Wn:Dm l.prog w K mg base 1 CP "reads" Þ (Pr<|iS (decide ((CP:Addr)=(⟨CN,CP,CH,CL⟩:Cl).LS))):=mq f1 W9 λf fd F=>by rw[show decide ((CP:Addr)=(⟨CN,CP,CH,CL⟩:Cl).LS)=false from ik O .post];exact dw (iV F)
  have Ts:Dm l.prog w K mg base 1 CH "reads" Þ (Pr<|iS (decide ((CH:Addr)=(⟨CN,CP,CH,CL⟩:Cl).LS))):=mq f2 Wa λf fd F=>by rw[show decide ((CH:Addr)=(⟨CN,CP,CH,CL⟩:Cl).LS)=false from ik O .house];exact dw (iV F)
  have Q7:Dm l.prog w K mg base 1 CL "reads" Þ (Pr<|iS (decide ((CL:Addr)=(⟨CN,CP,CH,CL⟩:Cl).LS))):=mq f3 W' λf fd F=>by rw[show decide ((CL:Addr)=(⟨CN,CP,CH,CL⟩:Cl).LS)=true from ik O .listener];exact dw (jZ F)
  have Wt:Dm l.prog w K mg base 1 CP "hears" Þ (Pr<|iS (!decide ((CP:Addr)=(⟨CN,CP,CH,CL⟩:Cl).house))):=mq f4 W9 λf fd F=>by rw[show (!decide ((CP:Addr)=(⟨CN,CP,CH,CL⟩:Cl).house))=true from iA O .post];exact dw (iW F)
  have Tv:Dm l.prog w K mg base 1 CH "hears" Þ (Pr<|iS (!decide ((CH:Addr)=(⟨CN,CP,CH,CL⟩:Cl).house))):=mq f5 Wa λf fd F=>by rw[show (!decide ((CH:Addr)=(⟨CN,CP,CH,CL⟩:Cl).house))=false from iA O .house];exact dw (oB F)
  have Qa:Dm l.prog w K mg base 1 CL "hears" Þ (Pr<|iS (!decide ((CL:Addr)=(⟨CN,CP,CH,CL⟩:Cl).house))):=mq f6 W' λf fd F=>by rw[show (!decide ((CL:Addr)=(⟨CN,CP,CH,CL⟩:Cl).house))=true from iA O .listener];exact dw (iW F)
  have Qc:=iq f7 ad λf fd F=>gq F O;have P8:=iq f8 ah λf fd F=>gq F O;have Mn:=iq f9 al λf fd F=>gq F O;have RZ:=iq f10 ac λf fd F=>vh F O;have LO:∀ C,jH (⟨CN,CP,CH,CL⟩:Cl) C->Dm l.prog w K mg base 1 C "reads" Þ (Pr<|iS (decide (C=(⟨CN,CP,CH,CL⟩:Cl).LS))):=by
   rintro _ ⟨k,rfl⟩
   cases k with
   | house=>exact Ts
   | listener=>exact Q7
   | post=>exact Wn
  have LP:∀ C,jH (⟨CN,CP,CH,CL⟩:Cl) C->Dm l.prog w K mg base 1 C "hears" Þ (Pr<|iS (!decide (C=(⟨CN,CP,CH,CL⟩:Cl).house))):=by
   rintro _ ⟨k,rfl⟩
   cases k with
   | house=>exact Tv
   | listener=>exact Qa
   | post=>exact Wt
  have HW:=mq f11 LU λf fd F=>gM F O Nd;have HN:=mq f12 LU λf fd F=>lh F O LO;have IT:=mq f13 LU λf fd F=>vi F O LP;have IF:=mq f14 LU λf fd F=>pZ F O TL TG LO HN;have Mm:=mq f15 LU λf fd F=>ve F O HW IF Qc;have JW:=mq f16 LU λf fd F=>mF F O HW IF Mn;have LC:=mq f17 LU λf fd F=>tR F O HW IF IT P8;have Ju:=fq f18 λf fd F=>v9 F TN TI;have Mj:=fq f19 λf fd F=>vc F TH Ju;have HV:=mq f20 LU λf fd F=>vd F O;have Kn:=mq f21 LU λf fd F=>tO F O TL;have Oa:=fq f22 λf fd F=>zH F TL;have I0:=mq f23 LU λf fd F=>jo F O;have Jv:=mq f24 LU λf fd F=>jY F O LP I0 HV Oa;have Ml:Dmd l.prog w K mg base 3 CN "tie" ó [.int 1] (sv ⟨CN,CP,CH,CL⟩):=Bw f25 LU (λ_ _ _ _ _ _ _ _ us hl=>zP us (Nat.succ.inj hl) λ_ _ _=>⟨_,rfl,rfl⟩) λf fd F=>xq F O TN TH Jv Mj;have IS:=mq f26 LU λf fd F=>vg F I0 HV (c:=⟨CN,CP,CH,CL⟩);have KR:=mq f27 LU λf fd F=>qc F I0 HV (c:=⟨CN,CP,CH,CL⟩);have Kq:=fq f28 λf fd F=>ox F TL;have Kt:=mq f29 LU λf fd F=>oA F O TD HV Kq;have Ii:=fq f30 λf fd F=>oo F IT Kt IS KR (c:=⟨CN,CP,CH,CL⟩);have Ip:=fq f31 λf fd F=>tM F TS;have Jt:=fq f32 λf fd F=>jX F TD Ii Ip;have JV:=fq f33 λf fd F=>mD F TX Ju;have Lz:=fq f34 λf fd F=>tK F TL JV;have Mi:=fq f35 λf fd F=>va F;have IV:=iq f36 am λf fd F=>D2 F TP Mi;have Jn:=fq f37 λf fd F=>mE F TD IV Jt Lz;have HQ:=mq f38 R4 λf fd F=>Vc F TX;have Iu:=mq f39 R4 λf fd F=>Bj F HQ;have J3:=mq f40 R4 λf fd F=>Bl F HQ;have KS:=mq f41 R4 λf fd F=>D4 F TX HQ Iu;have Jc:=fq f42 λf fd F=>xg F TX HQ;have KD:=fq f43 λf fd F=>zI F;have J':=fq f44 λf fd F=>v8 F TX;have JF:=fq f45 λf fd F=>D1 F TX J';have LB:=fq f46 λf fd F=>tL F;have Nf:=fq f47 λf fd F=>D3 F Jc LB Ip;have P5:Df l.prog w K mg base 5 "sent" æ (Pr<|wE ⟨CN,CP,CH,CL⟩ l7):=mY f48 X G (λ_ _ _ _ _ _ _ us hl=>zO us hl λ_ _ _ _ _=>⟨_,rfl,rfl⟩) λf fd F=>D0 F IV Ii Nf;have LQ:Df l.prog w K mg base 5 "carried" Ý (Pr<|kH ⟨CN,CP,CH,CL⟩ l7):=mY f49 X G (λ_ _ _ _ _ _ _ us hl=>zO us hl λ_ _ _ _ _=>⟨_,rfl,rfl⟩) λf fd F=>xp F TS IV Ii Nf JF KD Ip;have KQ:=fq f50 λf fd F=>pY F HQ;have Mh:=fq f51 λf fd F=>v6 F TX;have O7:=fq f52 λf fd F=>zE F Iu;have N7:=fq f53 λf fd F=>xf F TX Iu J3;have Ng:=fq f54 λf fd F=>xk F TX O7 N7 KS;have JL:=fq f55 λf fd F=>xh F TX KQ Mh Ng;have Kr:=fq f56 λf fd F=>oy F TX;have J2:=fq f57 λf fd F=>ou F Kr;have O8:=fq f58 λf fd F=>zF F TX JF J2 JL;have O9:=fq f59 λf fd F=>zG F TX J2 JL J' J3;have Km:=fq f60 λf fd F=>tH F O8 O9;have Ob:Df l.prog w K mg base 8 "judged" Ý (Pr<|dq ⟨CN,CP,CH,CL⟩ l7):=mY f61 X G (λ_ _ _ _ _ _ _ us hl=>zO us hl λ_ _ _ _ _=>⟨_,rfl,rfl⟩) λf fd F=>qG F Jn IV LQ HN IS Km;have Nc:Sz l.prog w K mg base 8 "judged" Ý [.non] (Pr<|dq ⟨CN,CP,CH,CL⟩ l7):=vW f61 X G (λ_ _ _ _ _ _ _ us hl=>Bz us (Nat.succ.inj hl) λ_ _ _ _=>⟨_,rfl,rfl⟩) λf fd F=>qG F Jn IV LQ HN IS Km;have Nh:=fq f62 λf fd F=>xo F TR HV (c:=⟨CN,CP,CH,CL⟩);have Jf:=fq f63 λf fd F=>lg F HV (c:=⟨CN,CP,CH,CL⟩);have Jk:=fq f64 λf fd F=>mi F TD;have Lv:=fq f65 λf fd F=>tE F;have Jm:=fq f66 λf fd F=>mB F TL Lv;have Kl:=fq f67 λf fd F=>tw F TS;have Jl:=fq f68 λf fd F=>mj F;have KP:=fq f69 λf fd F=>pX F;have Nb:=fq f70 λf fd F=>xi F KP;have Jy:=fq f71 λf fd F=>oj F TL Nb;have Na:Df l.prog w K mg base 4 "ways" ä (Pr<|KC ⟨CN,CP,CH,CL⟩):=mY f72 X G (λ_ _ _ _ _ _ _ us hl=>Bz us hl λ_ _ _ _=>⟨_,rfl,rfl⟩) λf fd F=>yC F TL TR.Ir HN IT Kn Jf Jk Jm Kl Jl Jy;have P4:Sz l.prog w K mg base 4 "ways" ä [.non] (Pr<|KC ⟨CN,CP,CH,CL⟩):=vW f72 X G (λ_ _ _ _ _ _ _ us hl=>zP us (Nat.succ.inj hl) λ_ _ _=>⟨_,rfl,rfl⟩) λf fd F=>yC F TL TR.Ir HN IT Kn Jf Jk Jm Kl Jl Jy;have S6:=iq f73 ap λf fd F=>vm F TE JF;have Ja:=mq f74 Wb λf fd F=>tT F TE Jc;have Jw:=mq f75 Wb λf fd F=>vk F TE Ja HQ;have Js:=fq f76 λf fd F=>jW F HN Na;have IK:=fq f77 λf fd F=>mC F TE;have Ks:=fq f78 λf fd F=>oz F TE TD.Ko IK HV S6 (c:=⟨CN,CP,CH,CL⟩);have Mg:=fq f79 λf fd F=>v5 F TE HQ;have Kp:=fq f80 λf fd F=>om F TE Ja HQ Mg;have Lu:=fq f81 λf fd F=>tD F Jc;have Lx:=fq f82 λf fd F=>tF F TE Lu KD;have Ly:=fq f83 λf fd F=>tG F TE TD.Ko IK JF Ks Ii Kp Lx Jw Ip;have Lw:Sz l.prog w K mg base 7 "plan_for" ï [.int 0] (Pr<|dA ⟨CN,CP,CH,CL⟩ CF (wF ⟨CN,CP,CH,CL⟩ CF)):=BL f84 X G (λ_ _ _ _ _ _ _ _ us hl=>zP us (Nat.succ.inj hl) λ_ _ _=>⟨_,rfl,rfl⟩) λf fd F=>v7 F TL IV Nh Js HN Ly;have JY:=fq f85 λf fd F=>vj F TA;have JX:=fq f86 λf fd F=>D6 F TA;have Qd:=fq f87 λf fd F=>D5 F TA RZ JX LC JW Mm Ml (c:=⟨CN,CP,CH,CL⟩);have P7:=fq f88 λf fd F=>Bn F TX JX;have LD:=fq f89 λf fd F=>tS F TR;have NJ:=fq f90 λf fd F=>Bp F TL;have Ni:=fq f91 λf fd F=>xr F TL Ob P5 LD NJ IS (c:=⟨CN,CP,CH,CL⟩);have P6:=fq f92 λf fd F=>Bm F TL ⟨Lw,λ_=>⟨_,_,rfl,rfl,rfl⟩⟩ ⟨Nc,λ_=>⟨_,_,rfl,rfl,rfl⟩⟩;exact Vb (c:=⟨CN,CP,CH,CL⟩) FL TA JY Qd JX HN Na ⟨P4,λ_=>⟨_,_,rfl,rfl,rfl⟩⟩ P7 Ni P6
theorem walk {l:W.OpenLaw}{K:Params->Ψ}(hn:l.most=some 63)(YA:d.params.defaults=[])(hY:∀ (w:World)(h:Heap),YP w h->(K w.params).In h)(F:∀ (w:World)(mg:Ω)(fa:Addr)(h:Heap),(K w.params).In h->h.Ns mainGlobals mg->mg d.name=some (.ref fa)->
   ∃ fd:È,(∀ (s:Ê)(v:Value),BindsTo s fd ⟨[v],[]⟩ [("_law_script",v)])/\∀ base:Heap,(K w.params).In base->base.Ns mainGlobals mg->HP l.prog w (K w.params) mg base Ik 10 fa fd ["_law_script"] (nA (K w.params))):
  W.WalkO q loose XP YP l.row.toRowW d [] (λf vs=>PySem.call f vs):=
 L2.SD hn (by decide) YA ⟨rfl,by decide,by decide⟩ hY F (λ_ _ a ns hl _ hS=>⟨a,ns,rfl,hS,λ_=>rfl⟩) λ_ _ _ _ _ z=>z
end K92
open PySem PySem.W PyProof.Rows L2
set_option maxRecDepth 100000 in
set_option maxHeartbeats 0 in
theorem PySem.Challenge.cw_mixposts_k92_whole_a_cut_is_too_narrow_holds : PySem.Challenge.rw_mixposts_k92_whole_a_cut_is_too_narrow.Holds := by
  refine topOfIt ?_
  k_fill
  refine K92.walk (l := PySem.Challenge.rw_mixposts_k92_whole_a_cut_is_too_narrow) rfl rfl (λw h Y => PySem.W.kIn_of Y) ?F
  case F =>
    intro w mg fa h KX G hmg
    apply K92.all_mk KX G hmg
    all_goals first|(first|apply av|apply aX|apply K92.in0_mk|apply K92.fnD0_mk|apply K92.fnI0_mk|apply K92.meD0_mk)<;>(first|k_is|kit_is)|k_is|kit_is|skip
    all_goals first|decide|omega|(intro h;cases h)
